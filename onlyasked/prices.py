"""The least prices of standings.

As far as prices depend on it, what is known at a moment is told by five sets of worlds (agreeing.py) for each source:
those that agree with what is known of it now, and one, two, three and more rounds later, when what has the shorter
lives is gone. A state is the tuple of these tuples, in the sequence of the sources.
"""

from onlyasked.agreeing import agreeing, result_of
from onlyasked.standings import is_of_source

ROUNDS = 5


def every_world(program):
    return (1 << len(program.mark_worlds)) - 1


def lasting(program, found, stay):
    """What is known of a source by an answer that these worlds have."""
    good = ROUNDS if stay is None else stay + 1
    return (found,) * good + (every_world(program),) * (ROUNDS - good)


def answers_at(program, place):
    """For each answer that worlds have of the source at this place a pair: those worlds, and what is known by it."""
    found = {}
    for number, world in enumerate(program.mark_worlds):
        found[world[place]] = found.get(world[place], 0) + (1 << number)
    stay = program.parts[place].stay
    return {answer: (one, lasting(program, one, stay)) for answer, one in found.items()}


def known_of(program, known, source):
    """What is known of a source in a standing."""
    lines = [line for line in known.lines if is_of_source(line[0], source)]
    sets = []
    for rounds in range(ROUNDS):
        good = [name for name, _, life in lines if life is None or life >= rounds]
        sets.append(agreeing(program, known.facts.only(tuple(good))))
    return tuple(sets)


def later(state):
    """The state at the next round if nothing is asked."""
    return tuple([sets[1:] + sets[-1:] for sets in state])


def fitting(state):
    """The worlds that agree with all that is known now."""
    found = state[0][0]
    for sets in state:
        found = found & sets[0]
    return found


def asks_by_price(program):
    """Pairs (price, places) for all that may be asked in one round, ascending."""
    found = []
    for bits in range(1, 1 << len(program.parts)):
        places = tuple([place for place in range(len(program.parts)) if bits >> place & 1])
        prices = [program.parts[place].price for place in places]
        found.append((program.round_price + sum(prices), places))
    return sorted(found)


def like_results(program, rows):
    """For each world the set of all that have its result."""
    results = [result_of(told, rows) for told in program.results]
    found = {}
    for number, result in enumerate(results):
        found[result] = found.get(result, 0) + (1 << number)
    return [found[result] for result in results]


class Prices:
    """The least prices of all standings of a program, by results of one kind.

    What was worked out is kept: bounds has the least prices if all answers stayed good for ever, by worlds; lowest and
    enough have for states what they cost at least, and what is enough for them.
    """

    def __init__(self, program, rows):
        self.program = program
        self.rows = rows
        self.asks = asks_by_price(program)
        self.by_answer = [answers_at(program, place) for place in range(len(program.parts))]
        self.answers = [list(told.values()) for told in self.by_answer]
        self.like = like_results(program, rows)
        self.bounds = {}
        self.lowest = {}
        self.enough = {}

    def state(self, known):
        return tuple([known_of(self.program, known, source) for source in self.program.sources])

    def is_settled(self, found):
        """Whether all these worlds, one or more, have the same result."""
        return found & ~self.like[found.bit_length() - 1] == 0

    def left_over(self, found, places):
        """The sets of these worlds that answers to an ask tell apart, but for those that are settled."""
        parts = [found]
        for place in places:
            parts = [part & worlds for part in parts for worlds, _ in self.answers[place]]
            parts = [part for part in parts if part and not self.is_settled(part)]
        return parts

    def bound(self, found):
        """The least price if all answers stayed good for ever, when these worlds agree with what is known."""
        if found not in self.bounds:
            self.bounds[found] = 0 if self.is_settled(found) else self.cheapest(found)
        return self.bounds[found]

    def cheapest(self, found):
        """The bound for worlds that are not settled."""
        least = self.asks[-1][0]
        for price, places in self.asks:
            if price >= least:
                return least
            parts = self.left_over(found, places)
            if parts != [found]:
                least = min(least, price + max([self.bound(part) for part in parts], default=0))
        return least

    def at_least(self, state):
        """What is known of the least price of what comes behind a round, if this is known when it begins."""
        return max(self.lowest.get(state, 0), self.bound(fitting(state)))

    def states_behind(self, state, places):
        """The states one round later behind the answers to an ask that do not settle it."""
        left = [(fitting(state), state)]
        for place in places:
            told = []
            for found, before in left:
                for worlds, sets in self.answers[place]:
                    both = found & worlds
                    if both and not self.is_settled(both):
                        told.append((both, before[:place] + (sets,) + before[place + 1:]))
            left = told
        return [later(after) for _, after in left]

    def is_worth(self, state, place):
        """Whether some answer of the source tells more than what is known, or for longer."""
        found = fitting(state)
        for worlds, sets in self.answers[place]:
            if found & worlds and any([one & ~other for one, other in zip(state[place], sets)]):
                return True
        return False

    def pays(self, state, places, money):
        """Whether this money is enough behind all answers to an ask."""
        behind = self.states_behind(state, places)
        if any([self.at_least(one) > money for one in behind]):
            return False
        for one in behind:
            if not self.is_enough(one, money):
                return False
        return True

    def paying_ask(self, state, money):
        """The places of a first ask with which this money is enough for a state that is not settled, () if none is."""
        worth = [place for place in range(len(state)) if self.is_worth(state, place)]
        for price, places in self.asks:
            if price <= money and all([place in worth for place in places]) and self.pays(state, places, money - price):
                return places
        return ()

    def is_enough(self, state, money):
        """Whether no more than this money is needed for a state that is not settled."""
        if money < self.at_least(state):
            return False
        if money < self.enough.get(state, money + 1):
            if self.paying_ask(state, money) == ():
                self.lowest[state] = money + 1
                return False
            self.enough[state] = money
        return True

    def least_of(self, state):
        """The least price for a state that is not settled."""
        money = self.at_least(state)
        while not self.is_enough(state, money):
            money += 1
        return money

    def least(self, known):
        """The least price of a tree for a standing with which some world agrees."""
        state = self.state(known)
        return 0 if self.is_settled(fitting(state)) else self.least_of(later(state))

    def state_behind(self, state, places, world):
        """The state behind a round, known as it begins, in which these sources gave the answers of a world of marks."""
        behind = state
        for place in places:
            sets = self.by_answer[place][world[place]][1]
            behind = behind[:place] + (sets,) + behind[place + 1:]
        return behind

    def is_dear(self, state, price):
        """Whether no tree for a state is cheaper than this price, from 1."""
        return not self.is_settled(fitting(state)) and not self.is_enough(later(state), price - 1)

    def first_ask(self, known):
        """The sources of the first round of a least tree, ascending, () if the standing is settled."""
        state = self.state(known)
        if self.is_settled(fitting(state)):
            return ()
        places = self.paying_ask(later(state), self.least_of(later(state)))
        return tuple(sorted([self.program.sources[place] for place in places]))
