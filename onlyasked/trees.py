"""Trees: what to ask in each round, by what came back in the rounds ahead of it."""

from onlyasked.agreeing import agreeing, members, results_in, told_world
from onlyasked.sources import are_answers, is_integer, part_named


def parts_named(program, sources):
    """The Source objects of these sources, in their sequence."""
    return [part_named(program, source) for source in sources]


def places_of(program, sources):
    """Where these sources stand among those of the program."""
    return [program.sources.index(source) for source in sources]


def worlds_behind(program, known):
    """The worlds that can be true when sources are asked in a standing, in their sequence."""
    facts = known.later().facts
    return [told_world(program, number, facts) for number in members(agreeing(program, facts))]


def answers_among(program, worlds, sources):
    """The answers of these sources in some worlds, each tuple once, in the sequence in which they first come."""
    places = places_of(program, sources)
    found = {}
    for world in worlds:
        found[tuple([world[place] for place in places])] = True
    return list(found)


def answers_behind(program, known, sources):
    """The answers of all branches when these sources are asked in a standing, in their sequence."""
    return answers_among(program, worlds_behind(program, known), sources)


def standing_behind(program, known, sources, answers):
    """The standing behind a round in which these sources gave these answers."""
    standing = known.later()
    for source, answer in zip(sources, answers):
        standing = standing.answered(program, source, answer)
    return standing


def can_answer(program, known, sources, value):
    """Whether any value is a tuple of answers of these sources that can come when they are asked in a standing."""
    if not are_answers(parts_named(program, sources), value):
        return False
    before = known.later().facts
    facts = standing_behind(program, known, sources, value).facts
    if not all([name in facts and facts[name] == told for name, told in before.pairs]):
        return False
    return agreeing(program, facts) != 0


def asking_cost(program, sources):
    """The price of a round in which these sources are asked."""
    return program.round_price + sum([part.price for part in parts_named(program, sources)])


def result_settled(prices, known):
    """A tuple of the result that the facts of a standing settle, () if they leave several open."""
    results = results_in(prices.program, agreeing(prices.program, known.facts), prices.rows)
    return results if len(results) == 1 else ()


def least_tree(prices, known, made):
    """A least tree for a standing; made keeps those that were made, by the lines of their standings."""
    if known.lines not in made:
        made[known.lines] = new_tree(prices, known, made)
    return made[known.lines]


def new_tree(prices, known, made):
    sources = prices.first_ask(known)
    if sources == ():
        results = result_settled(prices, known)
        return ("settled", results[0])
    branches = []
    for answers in answers_behind(prices.program, known, sources):
        standing = standing_behind(prices.program, known, sources, answers)
        branches.append((answers, least_tree(prices, standing, made)))
    return ("ask", sources, tuple(branches))


def ways_through(tree, rounds):
    """Pairs (rounds, result) for all ways through a tree, behind these rounds."""
    if tree[0] == "settled":
        yield (rounds, tree[1])
    else:
        for answers, further in tree[2]:
            longer = (*rounds, (tree[1], answers))
            yield from ways_through(further, longer)


def are_sources(program, value):
    """Whether any value is an ascending tuple of one or more sources."""
    if not isinstance(value, tuple) or not value:
        return False
    if not all([isinstance(source, str) and source in program.sources for source in value]):
        return False
    return list(value) == sorted(set(value))


def is_settled_so(prices, known, value):
    """Whether any value is the tree that asks nothing, for a standing whose facts settle its result."""
    if len(value) != 2 or value[0] != "settled" or not (isinstance(value[1], str) or is_integer(value[1])):
        return False
    return value[1:] == result_settled(prices, known)


def branches_price(prices, known, sources, value, least):
    """The greatest price of any value that is the branches of a tree that asks these sources, None if it is none."""
    expected = answers_behind(prices.program, known, sources)
    if not isinstance(value, tuple) or len(value) != len(expected):
        return None
    found = []
    for branch, answers in zip(value, expected):
        if not isinstance(branch, tuple) or len(branch) != 2:
            return None
        # What are answers of these sources at all are of the same sorts as others of them.
        if not are_answers(parts_named(prices.program, sources), branch[0]) or branch[0] != answers:
            return None
        price = tree_price(prices, standing_behind(prices.program, known, sources, answers), branch[1], least)
        if price is None:
            return None
        found.append(price)
    return max(found)


def asking_price(prices, known, value, least):
    """The price of any value that is a tree that asks for a standing, None if it is none."""
    if len(value) != 3 or value[0] != "ask" or not are_sources(prices.program, value[1]):
        return None
    further = branches_price(prices, known, value[1], value[2], least)
    if further is None:
        return None
    return asking_cost(prices.program, value[1]) + further


def tree_price(prices, known, value, least):
    """The price of any value that is a tree for a standing (least: that is a least one), None if it is none."""
    if not isinstance(value, tuple) or not value:
        return None
    price = 0 if is_settled_so(prices, known, value) else asking_price(prices, known, value, least)
    if least and price is not None and price != prices.least(known):
        return None
    return price
