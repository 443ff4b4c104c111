"""What facts settle, and which few of them settle it.

With rows the number of the row takes the place of the outcome as a result.
"""

from onlyasked.agreeing import (
    agreeing, agrees, fact_worlds, members, refuse_bad_facts, result_of, results_in, told_world,
)
from onlyasked.errors import Impossible, Open, Settled
from onlyasked.facts import Facts
from onlyasked.worlds import evaluate, is_world


def covers(masks, wanted):
    """As few of the masks as can be, by their indexes, that together have all bits of wanted."""
    parts = [mask & wanted for mask in masks]
    # Of all choices of as many masks that have the same bits together, one is enough.
    reached = {0: ()}
    while wanted not in reached:
        longer = {}
        for bits, chosen in reached.items():
            for at, part in enumerate(parts):
                if part & ~bits:
                    longer.setdefault(bits | part, (*chosen, at))
        reached = longer
    return reached[wanted]


def fewest(program, facts, unwanted):
    """As few of the facts as can be such that no world of this set, none of which agrees with all, agrees with them."""
    masks = [unwanted & ~fact_worlds(program, name, value) for name, value in facts.pairs]
    chosen = covers(masks, unwanted)
    return facts.only(tuple([facts.names[at] for at in chosen]))


def possible(program, facts, *, rows=False):
    """The ascending tuple of the results of all worlds that agree with the facts."""
    refuse_bad_facts(program, facts)
    return results_in(program, agreeing(program, facts), rows)


def conflict(program, facts):
    """As few of the facts as can be with which no world agrees, None if some world agrees with all."""
    refuse_bad_facts(program, facts)
    if agreeing(program, facts):
        return None
    return fewest(program, facts, (1 << len(program.mark_worlds)) - 1)


def refuse_impossible(program, facts):
    found = conflict(program, facts)
    if found is not None:
        raise Impossible(found)


def settled(program, facts, *, rows=False):
    """The only possible result, None if there are several."""
    refuse_impossible(program, facts)
    results = possible(program, facts, rows=rows)
    return results[0] if len(results) == 1 else None


def refuse_settled(program, facts, rows):
    result = settled(program, facts, rows=rows)
    if result is not None:
        raise Settled(result)


def refuse_open(program, facts, rows):
    if settled(program, facts, rows=rows) is None:
        raise Open(possible(program, facts, rows=rows))


def parting(program, facts, *, rows=False):
    """A pair of worlds that agree with the facts and have unlike results."""
    refuse_settled(program, facts, rows)
    numbers = members(agreeing(program, facts))
    results = [result_of(program.results[at], rows) for at in numbers]
    other = [at for at, result in zip(numbers, results) if result != results[0]][0]
    return (told_world(program, numbers[0], facts), told_world(program, other, facts))


def kept(program, facts, *, rows=False):
    """As few of the facts as can be that settle the same result."""
    refuse_open(program, facts, rows)
    result = settled(program, facts, rows=rows)
    others = [1 << at for at, told in enumerate(program.results) if result_of(told, rows) != result]
    return fewest(program, facts, sum(others))


def are_some(value, facts):
    """Whether any value is Facts, all of which are among these facts."""
    return isinstance(value, Facts) and value == facts.only(value.names)


def shows_conflict(program, facts, value):
    """Whether any value is what conflict may return."""
    found = conflict(program, facts)
    if found is None or value is None:
        return found is None and value is None
    return are_some(value, facts) and len(value) == len(found) and not agreeing(program, value)


def is_agreeing(program, facts, value):
    """Whether any value is a world that agrees with the facts."""
    return is_world(program, value) and agrees(program, facts, value)


def are_parted(program, facts, one, other, rows):
    """Whether any two values are worlds that agree with the facts and have unlike results."""
    if not is_agreeing(program, facts, one) or not is_agreeing(program, facts, other):
        return False
    return result_of(evaluate(program, one), rows) != result_of(evaluate(program, other), rows)


def shows_parting(program, facts, value, *, rows=False):
    """Whether any value is what parting may return."""
    refuse_settled(program, facts, rows)
    if not isinstance(value, tuple) or len(value) != 2:
        return False
    return are_parted(program, facts, value[0], value[1], rows)


def shows_kept(program, facts, value, *, rows=False):
    """Whether any value is what kept may return."""
    found = kept(program, facts, rows=rows)
    if not are_some(value, facts) or len(value) != len(found):
        return False
    return possible(program, value, rows=rows) == possible(program, facts, rows=rows)
