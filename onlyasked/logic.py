"""What an expression (expressions.py) names, and whether it holds.

What holds is told by a dict `held`: the values of all fields whose answers are there by names like "person.age",
for each maybe source whether it is there, and for each rule whether it holds.
"""


def compares(number, sign, other):
    """Whether one integer, or word, stands so to another one."""
    if sign == "<":
        return number < other
    if sign == ">":
        return number > other
    return number == other


def place_holds(place, value):
    """What a place that names a field has as its result for a value of the field."""
    form = place[0]
    if form == "yes":
        return value
    if form == "in":
        return value in place[2]
    return compares(value, form, place[2])


def leaf_holds(leaf, held):
    form = leaf[0]
    if form == "constant":
        return leaf[1]
    if form in ("rule", "there"):
        return held[leaf[1]]
    return leaf[1] in held and place_holds(leaf, held[leaf[1]])


def points_hold(tree, held):
    reached = 0
    for many, part in tree[1]:
        if holds(part, held):
            reached += many
    return compares(reached, tree[2], tree[3])


def all_hold(trees, held):
    for tree in trees:
        if not holds(tree, held):
            return False
    return True


def any_holds(trees, held):
    for tree in trees:
        if holds(tree, held):
            return True
    return False


def holds(tree, held):
    """Whether an expression holds."""
    form = tree[0]
    if form == "not":
        return not holds(tree[1], held)
    if form == "and":
        return all_hold(tree[1], held)
    if form == "or":
        return any_holds(tree[1], held)
    if form == "points":
        return points_hold(tree, held)
    return leaf_holds(tree, held)


def parts_of(tree):
    """The expressions directly within an expression."""
    form = tree[0]
    if form == "not":
        return [tree[1]]
    if form in ("and", "or"):
        return list(tree[1])
    if form == "points":
        return [pair[1] for pair in tree[1]]
    return []


def leaves(tree):
    """All expressions within an expression that have none within them, in their sequence."""
    parts = parts_of(tree)
    if not parts:
        return [tree]
    return [leaf for part in parts for leaf in leaves(part)]


def places(tree):
    """All places in an expression that name a field."""
    return [leaf for leaf in leaves(tree) if leaf[0] in ("yes", "=", "<", ">", "in")]


def rules_named(tree):
    """The names of rules that stand in an expression."""
    return [leaf[1] for leaf in leaves(tree) if leaf[0] == "rule"]
