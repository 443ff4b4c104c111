"""What is known, and up to which times it is good; None stands for a time that never comes.

What is held is a dict of the names of facts with pairs (value, until). No such dict is changed, a new one takes its
place; what is in it and not good any more counts for nothing.
"""

from onlyasked.sources import told_by
from onlyasked.standings import Known, is_of_source


def until_of(time, life):
    """The last time at which something is good that has this life at a time."""
    return None if life is None else time + life


def life_at(until, time):
    """The life that something has at a time at which it is good."""
    return None if until is None else until - time


def is_good(until, time):
    """Whether something is good at a time."""
    return until is None or time <= until


def is_longer(one, other):
    """Whether a time, or a life, is greater than another one."""
    return other is not None and (one is None or one > other)


def held_of(known, time):
    """What is held by a standing at a time."""
    return {name: (value, until_of(time, life)) for name, value, life in known.lines}


def known_at(held, time):
    """The standing that is held at a time."""
    good = [(name, held[name]) for name in held if is_good(held[name][1], time)]
    return Known(tuple([(name, value, life_at(until, time)) for name, (value, until) in good]))


def together(one, other):
    """What is held by two, which have no names in common."""
    found = dict(one)
    found.update(other)
    return found


def of_source(held, part):
    """What is held of a source."""
    return {name: held[name] for name in held if is_of_source(name, part.name)}


def without_source(held, part):
    """What is held but for a source."""
    return {name: held[name] for name in held if not is_of_source(name, part.name)}


def has_good(held, part, time):
    """Whether some fact of a source is held that is good at a time."""
    return any([is_good(until, time) for _, until in of_source(held, part).values()])


def with_answer(held, part, answer, until):
    """What is held when an answer has come that is good now, if nothing of its source is good for longer."""
    if any([is_longer(known, until) for _, known in of_source(held, part).values()]):
        return held
    told = told_by([part], [answer])
    return together(without_source(held, part), {name: (told[name], until) for name in told})
