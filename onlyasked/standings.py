"""Standings: facts with the lives that they have."""

from onlyasked.errors import BadFacts, NoName
from onlyasked.facts import Facts, are_facts
from onlyasked.sources import is_integer, part_named, told_by

LONGEST_LIFE = 3


def is_life(value):
    """Whether any value is a life; None is one for ever."""
    return value is None or is_integer(value) and 0 <= value <= LONGEST_LIFE


def is_line(value):
    """Whether any value has the form (name, value, life); are_facts looks at the first two."""
    return isinstance(value, tuple) and len(value) == 3 and is_life(value[2])


def are_lines(value):
    """Whether any value is a tuple of lines with different names."""
    if not isinstance(value, tuple) or not all([is_line(one) for one in value]):
        return False
    return are_facts(tuple([line[:2] for line in value]))


def is_of_source(name, source):
    """Whether a fact with this name is one of the source."""
    return name == source or name.startswith(f"{source}.")


class Known:
    """A standing, with the properties facts and lines (ascending by name)."""

    def __init__(self, lines=()):
        if not are_lines(lines):
            raise BadFacts(lines)
        self.lines = tuple(sorted(lines))
        self.facts = Facts(tuple([line[:2] for line in self.lines]))
        self._lives = tuple([line[2] for line in self.lines])

    def __eq__(self, other):
        return isinstance(other, Known) and self.facts == other.facts and self._lives == other._lives

    def life(self, name):
        """For how many further rounds a fact stays good, None: for ever; NoName(value) for any value without one."""
        if name not in self.facts:
            raise NoName(name)
        return self._lives[self.facts.names.index(name)]

    def later(self):
        """The standing at the next round if nothing is asked."""
        lines = [(name, value, life if life is None else life - 1) for name, value, life in self.lines if life != 0]
        return Known(tuple(lines))

    def answered(self, program, source, answer):
        """The standing with an answer of a source in the place of all that it had of it."""
        part = part_named(program, source)
        lines = [line for line in self.lines if not is_of_source(line[0], source)]
        told = told_by([part], [answer])
        lines.extend([(name, told[name], part.stay) for name in told])
        return Known(tuple(lines))
