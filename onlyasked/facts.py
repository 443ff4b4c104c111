"""Facts: names with what is known of them."""

from onlyasked.errors import BadFacts, NoName, Unlike


def is_pair(value):
    """Whether any value is a pair of a string and an integer, bool or string."""
    return (isinstance(value, tuple) and len(value) == 2 and isinstance(value[0], str)
            and isinstance(value[1], (int, str)))


def are_facts(value):
    """Whether any value is a tuple of pairs with different names."""
    if not isinstance(value, tuple) or not all([is_pair(one) for one in value]):
        return False
    return len(set([pair[0] for pair in value])) == len(value)


def with_sort(value):
    """A value beside its sort, as True == 1 for Python."""
    return (isinstance(value, bool), value)


class Facts:
    """Facts, with the properties names (ascending) and pairs (ascending by name)."""

    def __init__(self, pairs=()):
        if not are_facts(pairs):
            raise BadFacts(pairs)
        self.pairs = tuple(sorted(pairs))
        self.names = tuple([pair[0] for pair in self.pairs])
        self._values = {pair[0]: pair[1] for pair in self.pairs}
        self._sorts = tuple([(pair[0], with_sort(pair[1])) for pair in self.pairs])

    def __getitem__(self, name):
        if name not in self:
            raise NoName(name)
        return self._values[name]

    def __iter__(self):
        raise TypeError("facts are not iterated over: take names or pairs")

    def __contains__(self, name):
        return isinstance(name, str) and name in self._values

    def __len__(self):
        return len(self.pairs)

    def __eq__(self, other):
        return isinstance(other, Facts) and self._sorts == other._sorts

    def __or__(self, other):
        for name in self.names:
            if name in other and with_sort(self[name]) != with_sort(other[name]):
                raise Unlike(name)
        added = [pair for pair in other.pairs if pair[0] not in self]
        return Facts((*self.pairs, *added))

    def only(self, names):
        """Those of these facts that are there of the names, a tuple of strings."""
        return Facts(tuple([pair for pair in self.pairs if pair[0] in names]))
