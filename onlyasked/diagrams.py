"""Tables by numbers: a table that comes again, be it in another one, has the same number."""


def ranges(field, told):
    """Pairs ((low, high), number) by pairs (value, number): the number of a value is that of all up to the next one."""
    starts = [pair for at, pair in enumerate(told) if at == 0 or told[at - 1][1] != pair[1]]
    ends = [value - 1 for value, _ in starts[1:]] + [field.span[1]]
    return tuple([((value, end), number) for (value, number), end in zip(starts, ends)])


def groups(told):
    """Pairs (values, number) by pairs (value, number): all values with one number together."""
    found = {}
    for value, number in told:
        found[number] = (*found.get(number, ()), value)
    return tuple([(values, number) for number, values in found.items()])


def is_among(field, value, values):
    """Whether a value of a field is one of those of a branch."""
    if field.kind == "integer":
        return values[0] <= value <= values[1]
    return value in values


class Diagram:
    """Tables over the tests (levels.py) of a program.

    nodes has a pair for each number: of a test its number in the sequence and its branches, pairs (values, number);
    of an outcome, or None, the number of all tests and the outcome itself.
    """

    def __init__(self, levels):
        self.levels = levels
        self.nodes = []
        self.numbers = {}
        self.tables = {}

    def number_of(self, node):
        if node not in self.numbers:
            self.numbers[node] = len(self.nodes)
            self.nodes.append(node)
        return self.numbers[node]

    def leaf(self, outcome):
        """The number of an outcome, or of None."""
        return self.number_of((len(self.levels), outcome))

    def parted(self, at, told):
        """The number of the table that tells these pairs (value, number) apart by the test at this place."""
        field = self.levels[at].field
        branches = ranges(field, told) if field.kind == "integer" else groups(told)
        return branches[0][1] if len(branches) == 1 else self.number_of((at, branches))

    def first_test(self, numbers):
        """The place of the first test of some tables; the number of all tests if they test nothing."""
        return min([self.nodes[number][0] for number in numbers])

    def starts(self, at, numbers):
        """Values of the test at this place among which is the least of all that some tables do not tell apart."""
        field = self.levels[at].field
        if field.kind != "integer":
            return list(field.span)
        found = [field.span[0]]
        for number in numbers:
            first, branches = self.nodes[number]
            if first == at:
                found.extend([values[0] for values, _ in branches])
        return sorted(set(found))

    def behind(self, number, at, value):
        """The number of what a table is behind a value of the test at this place, ahead of which it tests nothing."""
        first, branches = self.nodes[number]
        if first > at:
            return number
        field = self.levels[at].field
        return [further for values, further in branches if is_among(field, value, values)][0]

    def table(self, number):
        """The table with this number."""
        if number not in self.tables:
            at, told = self.nodes[number]
            if at < len(self.levels):
                branches = [(values, self.table(further)) for values, further in told]
                told = (self.levels[at].field.name, tuple(branches))
            self.tables[number] = told
        return self.tables[number]
