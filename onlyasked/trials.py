"""Trials: what is done with a house of one's own, and not with the house itself."""


class Trial:
    """Binds a new copy of a house each time it is entered."""

    def __init__(self, house):
        self.house = house

    def __enter__(self):
        return self.house.twin()

    def __exit__(self, kind, value, trace):
        return False
