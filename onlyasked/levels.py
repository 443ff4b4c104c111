"""The tests that a table may make, in their sequence, and what may be a table."""

from onlyasked.sources import Field, is_integer
from onlyasked.spelling import is_name


class Level:
    """A test of the value of a field, or (asks_there) whether the answer of a maybe source is there.

    number is the place of the test in the sequence, owner the number of the test whether the answer that it is about is
    there (-1 if its source is not maybe, and for this test itself), after that of the first test of the next source.
    """

    def __init__(self, number, field, owner, after, asks_there):
        self.number = number
        self.field = field
        self.owner = owner
        self.after = after
        self.asks_there = asks_there

    def following(self, value):
        """The number of the first test that may stand behind this value."""
        if self.asks_there and not value:
            return self.after
        return self.number + 1


def levels_of(program):
    """All tests of a program in their sequence."""
    found = []
    for part in program.parts:
        owner = len(found) if part.maybe else -1
        after = len(found) + len(part.fields) + (1 if part.maybe else 0)
        if part.maybe:
            there = Field(part.name, "bool", (False, True), part.line)
            found.append(Level(len(found), there, -1, after, True))
        for field in part.fields:
            found.append(Level(len(found), field, owner, after, False))
    return found


def levels_from(levels, first):
    """The tests that may come next, if first is the number of the first one that is not behind us."""
    return [level for level in levels[first:] if level.owner < first]


def are_ranges(field, value):
    """Whether a tuple of values has just the ranges that an integer field may be parted into."""
    low = field.span[0]
    for one in value:
        if not isinstance(one, tuple) or len(one) != 2 or not is_integer(one[0]) or not is_integer(one[1]):
            return False
        if one[0] != low or one[1] < low:
            return False
        low = one[1] + 1
    return low == field.span[1] + 1


def is_ascending(numbers):
    return list(numbers) == sorted(set(numbers))


def are_word_sets(field, value):
    """Whether a tuple of values has just the tuples that the words of a field may be parted into."""
    places = []
    for one in value:
        if not isinstance(one, tuple) or not one or not all([word in field.span for word in one]):
            return False
        places.append([field.span.index(word) for word in one])
    together = sorted([place for some in places for place in some])
    if together != list(range(len(field.span))) or not all([is_ascending(some) for some in places]):
        return False
    return is_ascending([some[0] for some in places])


def are_both_bools(value):
    """Whether a tuple of values is that of a bool field: (False,), then (True,)."""
    if len(value) != 2 or not all([isinstance(one, tuple) and len(one) == 1 for one in value]):
        return False
    return value[0][0] is False and value[1][0] is True


def are_branch_values(field, value):
    """Whether a tuple of any values has those of the branches of a test of this field."""
    if field.kind == "integer":
        return are_ranges(field, value)
    if field.kind == "word":
        return are_word_sets(field, value)
    return are_both_bools(value)


def are_apart(field, tables):
    """Whether the tables behind a test are not the same where they must not be."""
    if len(tables) < 2:
        return False
    if field.kind == "integer":
        return all([one != other for one, other in zip(tables, tables[1:])])
    return all([table not in tables[:at] for at, table in enumerate(tables)])


def are_branches(levels, level, value):
    """Whether any value is the branches of a test."""
    if not isinstance(value, tuple) or not all([isinstance(one, tuple) and len(one) == 2 for one in value]):
        return False
    if not are_branch_values(level.field, tuple([one[0] for one in value])):
        return False
    for values, table in value:
        if not is_table(levels, table, level.following(values[0])):
            return False
    # Now that they are tables, what is equal for Python is of one sort, too.
    return are_apart(level.field, [one[1] for one in value])


def is_table(levels, value, first):
    """Whether any value is a table that tests nothing ahead of the test with the number first."""
    if value is None:
        return True
    if isinstance(value, str):
        return is_name(value)
    if not isinstance(value, tuple) or len(value) != 2:
        return False
    for level in levels_from(levels, first):
        if level.field.name == value[0]:
            return are_branches(levels, level, value[1])
    return False
