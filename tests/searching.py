"""A slow search by the words of the document alone, for the tests of plans: over all sets of sources and all answers."""

from itertools import combinations

from onlyasked.marks import mark_of, worlds
from onlyasked.worlds import evaluate


class Search:
    """Standings are dicts here: names with pairs (value, life)."""

    def __init__(self, program, rows=False):
        self.program = program
        self.rows = rows
        lines = [line.split(" ") for line in program.text.split("\n")]
        self.round_price = int(lines[0][1])
        self.source_lines = {line[1]: line for line in lines if line[0] == "source"}
        self.fields = {}
        for line in lines:
            if line[0] == "source":
                source = line[1]
                self.fields[source] = []
            elif line[0] == "":
                self.fields[source].append(f"{source}.{line[2]}")
        self.results = {world: evaluate(program, world)[1 if rows else 0] for world in worlds(program)}
        self.told = {world: self.facts_of(world) for world in self.results}
        self.found = {}

    def price_of(self, source):
        return int(self.source_lines[source][3])

    def stay_of(self, source):
        line = self.source_lines[source]
        return int(line[line.index("stay") + 1]) if "stay" in line else None

    def is_maybe(self, source):
        return "maybe" in self.source_lines[source]

    def facts_of_answer(self, source, answer):
        told = {source: answer is not None} if self.is_maybe(source) else {}
        if answer is not None:
            told.update(zip(self.fields[source], answer))
        return told

    def facts_of(self, world):
        told = {}
        for source, answer in zip(self.program.sources, world):
            told.update(self.facts_of_answer(source, answer))
        return told

    def mark(self, name, value):
        return value if name in self.source_lines else mark_of(self.program, name, value)

    def agreeing(self, standing):
        """The worlds made of marks that agree with a standing by their classes."""
        wanted = {name: self.mark(name, value) for name, (value, _) in standing.items()}
        return [world for world, told in self.told.items()
                if all(name in told and told[name] == value for name, value in wanted.items())]

    def results_of(self, standing):
        return {self.results[world] for world in self.agreeing(standing)}

    def later(self, standing):
        return {name: (value, life if life is None else life - 1) for name, (value, life) in standing.items() if life != 0}

    def behind(self, standing, sources, answers):
        found = self.later(standing)
        for source, answer in zip(sources, answers):
            found = {name: line for name, line in found.items() if name.split(".")[0] != source}
            told = self.facts_of_answer(source, answer)
            found.update({name: (value, self.stay_of(source)) for name, value in told.items()})
        return found

    def answers(self, standing, sources):
        """The answers of all branches, in their sequence."""
        later = self.later(standing)
        found = []
        for world in self.agreeing(later):
            answers = []
            for source in sources:
                answer = world[self.program.sources.index(source)]
                if answer is not None:
                    answer = tuple(later[name][0] if name in later else value
                                   for name, value in zip(self.fields[source], answer))
                answers.append(answer)
            if tuple(answers) not in found:
                found.append(tuple(answers))
        return found

    def choices(self):
        names = sorted(self.program.sources)
        return [some for many in range(1, len(names) + 1) for some in combinations(names, many)]

    def ask_price(self, sources):
        return self.round_price + sum(self.price_of(source) for source in sources)

    def is_enough(self, standing, money):
        key = (tuple(sorted(standing.items())), money)
        if key not in self.found:
            self.found[key] = len(self.results_of(standing)) == 1 or any(
                self.ask_price(sources) <= money and all(
                    self.is_enough(self.behind(standing, sources, answers), money - self.ask_price(sources))
                    for answers in self.answers(standing, sources))
                for sources in self.choices())
        return self.found[key]

    def least(self, standing):
        money = 0
        while not self.is_enough(standing, money):
            money += 1
        return money

    def price(self, standing, tree, least=False):
        """The price of what has the form of a tree, None if it is none for the standing (least: or is not least)."""
        if tree[0] == "settled":
            price = 0 if self.results_of(standing) == {tree[1]} else None
        else:
            _, sources, branches = tree
            if sources not in self.choices() or [answers for answers, _ in branches] != self.answers(standing, sources):
                return None
            prices = [self.price(self.behind(standing, sources, answers), further, least) for answers, further in branches]
            price = None if None in prices else self.ask_price(sources) + max(prices)
        return None if least and price != self.least(standing) else price


def standing_of(known):
    """The standing of a Known as a dict."""
    return {name: (value, life) for name, value, life in known.lines}
