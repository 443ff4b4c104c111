"""The classes of the values of fields, and the worlds that are made of their marks."""

from onlyasked.errors import NoWorld, TooLarge
from onlyasked.logic import place_holds
from onlyasked.sources import told_by
from onlyasked.worlds import decided, givens_hold

MOST_WORLDS = 400


def starts(field):
    """Values of a field among which is the least one of each class, in their sequence."""
    if field.kind != "integer":
        return field.span
    low, high = field.span
    numbers = [low]
    for place in field.places:
        # The result of =, < and > changes nowhere but at the number that it names and right behind it.
        numbers.append(place[2])
        numbers.append(place[2] + 1)
    return [number for number in sorted(set(numbers)) if low <= number <= high]


def results_for(field, value):
    """The results of all places that name the field for a value of it."""
    return tuple([place_holds(place, value) for place in field.places])


def find_classes(field, places):
    """Gives a field the places that name it, and the marks that it has by them."""
    field.places = tuple(places)
    classes = {}
    for value in starts(field):
        classes.setdefault(results_for(field, value), value)
    field.classes = classes


def refuse_too_large(sources):
    number = 1
    for source in sources:
        many = 1
        for field in source.fields:
            many = many * len(field.classes)
        number = number * (many + 1 if source.maybe else many)
    if number > MOST_WORLDS:
        raise TooLarge(number)


def combined(choices):
    """All tuples of one of each of the choices, the last one changing first."""
    rows = [()]
    for choice in choices:
        rows = [(*row, one) for row in rows for one in choice]
    return rows


def mark_answers(source):
    """All answers of a source whose values are marks."""
    answers = combined([list(field.classes.values()) for field in source.fields])
    return [None] + answers if source.maybe else answers


def find_mark_worlds(program):
    """All worlds of a program whose values are marks; NoWorld(None) if there is none."""
    found = [world for world in combined([mark_answers(source) for source in program.parts])
             if givens_hold(program, world)]
    if not found:
        raise NoWorld(None)
    return tuple(found)


def find_results(program):
    """The pair (outcome, row) of each world whose values are marks."""
    return tuple([decided(program, world) for world in program.mark_worlds])


def find_told_worlds(program):
    """For each name and each mark (of a maybe source whether it is there) the worlds that tell so (agreeing.py)."""
    found = {name: {} for name in program.names}
    for at, world in enumerate(program.mark_worlds):
        told = told_by(program.parts, world)
        for name, value in told.items():
            found[name][value] = found[name].get(value, 0) + (1 << at)
    return found
