"""Marks: the least values of the classes of values that a program does not tell apart."""

from onlyasked.classes import results_for
from onlyasked.errors import BadFact, NoName
from onlyasked.sources import is_value


def field_named(program, name):
    """The field with this name; NoName(value) for any value that is no name of a field."""
    if not isinstance(name, str) or name not in program.fields:
        raise NoName(name)
    return program.fields[name]


def marks(program, name):
    """The marks of a field, ascending, words in the sequence of their line."""
    return tuple(field_named(program, name).classes.values())


def mark_of(program, name, value):
    """The mark of a value of a field; BadFact(name) for any value that is none of it."""
    field = field_named(program, name)
    if not is_value(field, value):
        raise BadFact(name)
    return field.classes[results_for(field, value)]


def worlds(program):
    """All worlds all of whose values are marks, the last field of the last source changing first."""
    yield from program.mark_worlds
