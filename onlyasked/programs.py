"""Programs of rules, read from their lines."""

from onlyasked.checks import fields_by_name, ordered_rules, refuse_doubled, refuse_unnamed
from onlyasked.classes import find_classes, find_mark_worlds, find_results, find_told_worlds, refuse_too_large
from onlyasked.drafts import read_draft
from onlyasked.logic import places


def places_by_name(trees):
    """For each name of a field the different places in these expressions that name it."""
    found = {}
    for tree in trees:
        for place in places(tree):
            named = found.setdefault(place[1], {})
            named[place] = True
    return {name: list(found[name]) for name in found}


class Program:
    """A program, with the properties text, sources, names and outcomes.

    For the package it also has: round_price; parts, its Source objects; fields, its Field objects by names as in
    "person.age"; givens, their expressions; rules, pairs (name, expression), each behind those that it names; rows,
    pairs (outcome, expression) of the decide lines; otherwise, the outcome of the last row; mark_worlds, all worlds
    whose values are marks; results, a pair (outcome, row) for each of them; told_worlds, for each name and mark the
    worlds that tell so (agreeing.py).
    """

    def __init__(self, text):
        draft = read_draft(text)
        refuse_doubled(draft)
        refuse_unnamed(draft)
        self.text = text
        self.round_price = draft.round_price
        self.parts = tuple(draft.sources)
        self.fields = fields_by_name(draft.sources)
        self.givens = tuple([tree for _, tree in draft.givens])
        self.rules = tuple(ordered_rules(draft.rules))
        self.rows = tuple([(outcome, tree) for _, outcome, tree in draft.decides])
        self.otherwise = draft.otherwise
        self.sources = tuple([source.name for source in self.parts])
        maybes = [source.name for source in self.parts if source.maybe]
        self.names = tuple(sorted(list(self.fields) + maybes))
        self.outcomes = tuple(sorted(set([outcome for outcome, _ in self.rows] + [self.otherwise])))
        self.find_marks()

    def __eq__(self, other):
        return isinstance(other, Program) and self.text == other.text

    def find_marks(self):
        found = places_by_name(list(self.givens) + [tree for _, tree in self.rules + self.rows])
        for field in self.fields.values():
            find_classes(field, found.get(field.name, []))
        refuse_too_large(self.parts)
        self.mark_worlds = find_mark_worlds(self)
        self.results = find_results(self)
        self.told_worlds = find_told_worlds(self)
