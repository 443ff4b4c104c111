"""Answerers: for each way to ask an answer behind which much is left to pay, so that no tree is cheaper."""

from onlyasked.agreeing import agreeing, is_fact, members, told_world
from onlyasked.prices import Prices, later
from onlyasked.settling import are_parted, parting, refuse_impossible
from onlyasked.sources import are_answers, is_integer
from onlyasked.standings import Known, are_lines, is_of_source
from onlyasked.trees import (
    answers_among, asking_cost, parts_named, places_of, standing_behind, worlds_behind,
)


def is_whole(part, facts):
    """Whether the answer of a source is told by facts."""
    if part.maybe and part.name in facts and not facts[part.name]:
        return True
    return all([field.name in facts for field in part.fields])


def is_for_ever(part, known):
    """Whether the answer of a source is told, and all that is known of it stays good for ever."""
    lives = [life for name, _, life in known.lines if is_of_source(name, part.name)]
    return is_whole(part, known.facts) and all([life is None for life in lives])


def sets_to_answer(program, known):
    """The sets of sources that a line for a standing has an answer for, ascending tuples in ascending order."""
    settled = [part.name for part in program.parts if is_for_ever(part, known)]
    found = [()]
    for source in sorted(program.sources):
        found = found + [(*some, source) for some in found]
    return sorted([some for some in found if not all([name in settled for name in some])])


def dear_answers(prices, known, sources, left):
    """Answers of a branch with these sources behind which no tree is cheaper than what is left."""
    program = prices.program
    facts = known.later().facts
    places = places_of(program, sources)
    before = later(prices.state(known))
    for number in members(agreeing(program, facts)):
        behind = prices.state_behind(before, places, program.mark_worlds[number])
        if prices.is_dear(behind, left):
            world = told_world(program, number, facts)
            return tuple([world[place] for place in places])
    return None


def pairs_for(prices, known, price):
    """For each set of sources the answers of a line with this price."""
    found = []
    for sources in sets_to_answer(prices.program, known):
        left = price - asking_cost(prices.program, sources)
        found.append((sources, dear_answers(prices, known, sources, left) if left > 0 else None))
    return tuple(found)


def lines_for(prices, known, price):
    """The lines that show that no tree for a standing is cheaper than a price that is not above its least one.

    What is left behind an ask is less than the price of the line: so lines go by their prices, the greatest first, and
    each one wants further lines behind it only.
    """
    wanted = {known.lines: price}
    found = []
    for reached in range(price, 0, -1):
        due = [one for one in wanted if wanted[one] == reached]
        for lines in due:
            del wanted[lines]
            standing = Known(lines)
            one, other = parting(prices.program, standing.facts, rows=prices.rows)
            pairs = pairs_for(prices, standing, reached)
            found.append((lines, reached, one, other, pairs))
            for sources, answers in [pair for pair in pairs if pair[1] is not None]:
                behind = standing_behind(prices.program, standing, sources, answers).lines
                left = reached - asking_cost(prices.program, sources)
                wanted[behind] = max(wanted.get(behind, 0), left)
    return tuple(found)


def answerer(program, known, *, rows=False):
    """An answerer for the least price of a standing, () for 0; BadFact, Impossible."""
    refuse_impossible(program, known.facts)
    prices = Prices(program, rows)
    return lines_for(prices, known, prices.least(known))


def are_program_lines(program, value):
    """Whether any value is the lines of a standing, with facts that are all of the program."""
    if not are_lines(value) or Known(value).lines != value:
        return False
    return all([is_fact(program, name, told) for name, told, _ in value])


def is_answered(program, worlds, sources, answers):
    """Whether any value is answers that a branch with these sources could have, when these worlds can be true."""
    if not are_answers(parts_named(program, sources), answers):
        return False
    return answers in answers_among(program, worlds, sources)


def is_pair_right(program, line, worlds, sources, pair, further):
    """Whether any value answers an ask of these sources; further has the prices of the lines behind this one."""
    if not isinstance(pair, tuple) or len(pair) != 2 or pair[0] != sources:
        return False
    left = line[1] - asking_cost(program, sources)
    if left <= 0 or pair[1] is None:
        return left <= 0 and pair[1] is None
    if not is_answered(program, worlds, sources, pair[1]):
        return False
    behind = standing_behind(program, Known(line[0]), sources, pair[1])
    return further.get(behind.lines, 0) >= left


def are_pairs_right(program, line, further):
    """Whether what has the form of a line answers each ask."""
    known = Known(line[0])
    expected = sets_to_answer(program, known)
    if not isinstance(line[4], tuple) or len(line[4]) != len(expected):
        return False
    worlds = worlds_behind(program, known)
    for sources, pair in zip(expected, line[4]):
        if not is_pair_right(program, line, worlds, sources, pair, further):
            return False
    return True


def is_line_right(program, line, further, rows):
    """Whether any value is a line of an answerer, when the lines behind it have these standings and prices."""
    if not isinstance(line, tuple) or len(line) != 5 or not are_program_lines(program, line[0]):
        return False
    if not is_integer(line[1]) or line[1] < 1:
        return False
    if not are_parted(program, Known(line[0]).facts, line[2], line[3], rows):
        return False
    return are_pairs_right(program, line, further)


def are_lines_right(program, value, rows):
    """Whether all items of a tuple are lines of an answerer."""
    further = {}
    for line in reversed(list(value)):
        if not is_line_right(program, line, further, rows):
            return False
        further[line[0]] = max(further.get(line[0], 0), line[1])
    return True


def shows_answerer(program, known, price, value, *, rows=False):
    """Whether any value is an answerer for a standing and a price; BadFact, Impossible."""
    refuse_impossible(program, known.facts)
    if not isinstance(value, tuple):
        return False
    if price <= 0 or value == ():
        return price <= 0 and value == ()
    if not are_lines_right(program, value, rows):
        return False
    return value[0][0] == known.lines and value[0][1] == price
