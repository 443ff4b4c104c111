"""What a program must not do with names: doubled ones, ones that there are not, rules in a ring."""

from onlyasked.errors import Doubled, RingOfRules, Unnamed
from onlyasked.logic import leaves, rules_named


def named_lines(draft):
    """Pairs (name, line) of all sources, fields and rules, in the sequence of their lines."""
    found = []
    for source in draft.sources:
        found.append((source.name, source.line))
        found.extend([(field.name, field.line) for field in source.fields])
    found.extend([(name, line) for line, name, _ in draft.rules])
    return found


def fields_by_name(sources):
    """All fields of sources by names as in "person.age"."""
    return {field.name: field for source in sources for field in source.fields}


def doubled_lines(draft):
    """The lines with a name or word that must not be there a second time."""
    found = []
    names = {}
    for name, line in named_lines(draft):
        if name in names:
            found.append(line)
        names[name] = True
    for source in draft.sources:
        for field in source.fields:
            if field.kind == "word" and len(set(field.span)) < len(field.span):
                found.append(field.line)
    return found


def refuse_doubled(draft):
    found = doubled_lines(draft)
    if found:
        raise Doubled(min(found))


def kind_wanted(place):
    """The kind of field that a place that names a field wants by its form."""
    if place[0] == "yes":
        return "bool"
    if place[0] == "in" or place[0] == "=" and isinstance(place[2], str):
        return "word"
    return "integer"


def words_in(place):
    """The words of a field that a place names."""
    if place[0] == "in":
        return place[2]
    if place[0] == "=" and isinstance(place[2], str):
        return (place[2],)
    return ()


def is_place_known(fields, place):
    """Whether there is such a field, of this kind and with these words."""
    if place[1] not in fields:
        return False
    field = fields[place[1]]
    if field.kind != kind_wanted(place):
        return False
    return all([word in field.span for word in words_in(place)])


def is_leaf_known(draft, fields, leaf):
    """Whether what an expression without further ones within it names is there."""
    if leaf[0] == "constant":
        return True
    if leaf[0] == "there":
        return leaf[1] in [source.name for source in draft.sources if source.maybe]
    if leaf[0] == "rule":
        return leaf[1] in [rule[1] for rule in draft.rules]
    return is_place_known(fields, leaf)


def expressions_of(draft):
    """Pairs (line, expression), in the sequence of their lines."""
    named = [(line, tree) for line, _, tree in draft.rules + draft.decides]
    return draft.givens + named


def refuse_unnamed(draft):
    fields = fields_by_name(draft.sources)
    for line, tree in expressions_of(draft):
        if not all([is_leaf_known(draft, fields, leaf) for leaf in leaves(tree)]):
            raise Unnamed(line)


def ring_among(named, names):
    """A ring of rules, where each of these names one of these."""
    path = [names[0]]
    while True:
        following = [name for name in named[path[-1]] if name in names][0]
        if following in path:
            return tuple(path[path.index(following):])
        path.append(following)


def ordered_rules(rules):
    """Pairs (name, expression) of the rules, each behind those that it names; RingOfRules if there is no such order."""
    trees = {name: tree for _, name, tree in rules}
    named = {name: rules_named(tree) for _, name, tree in rules}
    ordered = []
    waiting = list(trees)
    while waiting:
        ready = [name for name in waiting if not [other for other in named[name] if other in waiting]]
        if not ready:
            raise RingOfRules(ring_among(named, waiting))
        ordered.extend(ready)
        waiting = [name for name in waiting if name not in ready]
    return [(name, trees[name]) for name in ordered]
