"""Tables: what a program tells for all answers, in one form only; two programs held against each other by them."""

from onlyasked.classes import results_for, starts
from onlyasked.diagrams import Diagram, is_among
from onlyasked.errors import BadAnswers, BadTable, Clash, OtherSources
from onlyasked.levels import is_table, levels_of
from onlyasked.sources import are_answers, source_forms, told_by
from onlyasked.worlds import decided, givens_hold


def refuse_other_sources(program, others):
    for other in others:
        if source_forms(other) != source_forms(program):
            raise OtherSources(None)


def outcome_of(program, answers):
    """The outcome for an answer of each source, None if they are no world."""
    return decided(program, answers)[0] if givens_hold(program, answers) else None


def answer_told(part, told):
    """An answer of a source that fits what is told, a dict by names; any of those that fit."""
    if part.maybe and not told.get(part.name, False):
        return None
    return tuple([told.get(field.name, field.span[0]) for field in part.fields])


def answers_told(program, told):
    """An answer of each source that fits what is told."""
    return tuple([answer_told(part, told) for part in program.parts])


def number_from(diagram, program, at, told):
    """The number of the table of a program from the test at this place on, behind what is told by the ones ahead."""
    if at == len(diagram.levels):
        return diagram.leaf(outcome_of(program, answers_told(program, told)))
    level = diagram.levels[at]
    name = level.field.name
    if level.asks_there:
        values = [(False, False), (True, True)]
    else:
        field = program.fields[name]
        values = [(value, field.classes[results_for(field, value)]) for value in starts(field)]
    found = {}
    for value, mark in values:
        if mark not in found:
            found[mark] = number_from(diagram, program, level.following(value), {**told, name: mark})
    return diagram.parted(at, [(value, found[mark]) for value, mark in values])


def number_of_table(diagram, program):
    return number_from(diagram, program, 0, {})


def apart(diagram, one, other):
    """What is told by the tests, by names, where two different tables tell what is not the same."""
    told = {}
    while diagram.first_test((one, other)) < len(diagram.levels):
        at = diagram.first_test((one, other))
        # Two different tables differ behind some value of their first test.
        for value in diagram.starts(at, (one, other)):
            behind = (diagram.behind(one, at, value), diagram.behind(other, at, value))
            if behind[0] != behind[1]:
                break
        told[diagram.levels[at].field.name] = value
        one, other = behind
    return told


def alike(one, other):
    """None if two programs have the same worlds and outcomes, otherwise answers for which they have not."""
    refuse_other_sources(one, [other])
    diagram = Diagram(levels_of(one))
    numbers = (number_of_table(diagram, one), number_of_table(diagram, other))
    if numbers[0] == numbers[1]:
        return None
    return answers_told(one, apart(diagram, numbers[0], numbers[1]))


def shows_unlike(one, other, value):
    """Whether any value is answers for which two programs have not the same worlds and outcomes."""
    refuse_other_sources(one, [other])
    return are_answers(one.parts, value) and outcome_of(one, value) != outcome_of(other, value)


def table(program):
    """The one table of a program."""
    diagram = Diagram(levels_of(program))
    return diagram.table(number_of_table(diagram, program))


def by_table(program, value, answers):
    """What a table tells for an answer of each source; BadTable, then BadAnswers, for any values."""
    levels = levels_of(program)
    if not is_table(levels, value, 0):
        raise BadTable(value)
    if not are_answers(program.parts, answers):
        raise BadAnswers(answers)
    fields = {level.field.name: level.field for level in levels}
    told = told_by(program.parts, answers)
    while isinstance(value, tuple):
        name, branches = value
        value = [further for values, further in branches if is_among(fields[name], told[name], values)][0]
    return value


def merged_number(base, one, other):
    """The number of what a table is by three, if all three need not be looked into; -1 otherwise."""
    if one == other or other == base:
        return one
    return other if one == base else -1


class Merger:
    """Merges tables of one diagram; Clash where all three differ. made keeps what was merged."""

    def __init__(self, diagram, program):
        self.diagram = diagram
        self.program = program
        self.made = {}

    def merge(self, numbers, told):
        """The number of the table that is merged of a base and two others, behind what is told by tests."""
        if numbers not in self.made:
            found = merged_number(numbers[0], numbers[1], numbers[2])
            self.made[numbers] = found if found >= 0 else self.merge_parts(numbers, told)
        return self.made[numbers]

    def merge_parts(self, numbers, told):
        diagram = self.diagram
        at = diagram.first_test(numbers)
        if at == len(diagram.levels):
            raise Clash(answers_told(self.program, told))
        name = diagram.levels[at].field.name
        found = []
        for value in diagram.starts(at, numbers):
            behind = tuple([diagram.behind(number, at, value) for number in numbers])
            found.append((value, self.merge(behind, {**told, name: value})))
        return diagram.parted(at, found)


def merged(base, one, other):
    """The table of what was changed by one or the other; Clash(answers) where all three differ."""
    refuse_other_sources(base, [one, other])
    diagram = Diagram(levels_of(base))
    numbers = tuple([number_of_table(diagram, program) for program in (base, one, other)])
    return diagram.table(Merger(diagram, base).merge(numbers, {}))
