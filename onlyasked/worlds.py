"""Worlds: one answer for each source, for which all givens hold."""

from onlyasked.errors import BadWorld
from onlyasked.logic import all_hold, holds
from onlyasked.sources import are_answers, told_by


def what_holds(program, answers):
    """What the answers of all sources tell, and by it the rules."""
    held = told_by(program.parts, answers)
    # The rules stand in a sequence in which each is behind those that it names.
    for name, tree in program.rules:
        held[name] = holds(tree, held)
    return held


def givens_hold(program, answers):
    return all_hold(program.givens, what_holds(program, answers))


def is_world(program, value):
    """Whether any value is a world of the program."""
    return are_answers(program.parts, value) and givens_hold(program, value)


def decided(program, world):
    """The pair (outcome, row) in what is a world."""
    held = what_holds(program, world)
    for row, (outcome, tree) in enumerate(program.rows):
        if holds(tree, held):
            return (outcome, row)
    return (program.otherwise, len(program.rows))


def evaluate(program, world):
    """The pair (outcome, row) in a world; BadWorld(value) for any value that is none."""
    if not is_world(program, world):
        raise BadWorld(world)
    return decided(program, world)
