"""Which worlds agree with facts.

A set of worlds made of marks is held as an integer here and in the modules above: its bit k stands for the world k of
program.mark_worlds.
"""

from onlyasked.errors import BadFact
from onlyasked.marks import mark_of
from onlyasked.sources import is_value, told_by


def is_fact(program, name, value):
    """Whether a fact is about a name of the program, with a value that it may have."""
    if name in program.fields:
        return is_value(program.fields[name], value)
    return name in program.names and isinstance(value, bool)


def refuse_bad_facts(program, facts):
    # The names ascend, so that the first one found is the least one.
    for name in facts.names:
        if not is_fact(program, name, facts[name]):
            raise BadFact(name)


def fact_worlds(program, name, value):
    """The worlds that agree with one fact by the classes of values."""
    told = mark_of(program, name, value) if name in program.fields else value
    return program.told_worlds[name].get(told, 0)


def agreeing(program, facts):
    """The worlds that agree with facts by the classes of values."""
    found = (1 << len(program.mark_worlds)) - 1
    for name, value in facts.pairs:
        found = found & fact_worlds(program, name, value)
    return found


def members(found):
    """The numbers of the worlds in a set, ascending."""
    return [at for at in range(found.bit_length()) if found >> at & 1]


def result_of(told, rows):
    """The result by a pair (outcome, row)."""
    return told[1] if rows else told[0]


def results_in(program, found, rows):
    """The ascending tuple of the results of a set of worlds."""
    return tuple(sorted(set([result_of(program.results[at], rows) for at in members(found)])))


def told_answer(source, answer, facts):
    """An answer made of marks with what the facts tell in the place of them."""
    if answer is None:
        return None
    names = [field.name for field in source.fields]
    return tuple([facts[name] if name in facts else mark for name, mark in zip(names, answer)])


def told_world(program, number, facts):
    """The world with this number, which agrees by its classes, with what the facts tell in the place of marks."""
    world = program.mark_worlds[number]
    return tuple([told_answer(source, answer, facts) for source, answer in zip(program.parts, world)])


def agrees(program, facts, world):
    """Whether a world of any values agrees with facts that are all of the program."""
    told = told_by(program.parts, world)
    return all([name in told and told[name] == value for name, value in facts.pairs])
