"""Tables as texts."""

from onlyasked.wording import value_text


def values_text(values):
    """The values of a branch: the bounds of a range, words, or a bool."""
    if isinstance(values[0], str):
        return "/".join(values)
    return "..".join([value_text(value) for value in values])


def table_text(table):
    """The text of a table."""
    if table is None:
        return "none"
    if isinstance(table, str):
        return table
    branches = [f"{values_text(values)}: {table_text(further)}" for values, further in table[1]]
    return f"{table[0]}({', '.join(branches)})"
