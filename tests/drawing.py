"""Drawn programs, worlds and standings for the tests; `draw` is a random.Random with a seed."""

from itertools import product

from onlyasked.errors import NoWorld, TooLarge
from onlyasked.programs import Program
from onlyasked.standings import Known
from onlyasked.worlds import is_world

WORDS = ("lo", "mid", "hi")
OUTCOMES = ("go", "stop", "wait")
LETTERS = "abcde"


def source_lines(draw, many, common=0.25, most_fields=2):
    """The lines of sources a, b, .. with one or more fields each."""
    lines = []
    for at in range(many):
        line = f"source {LETTERS[at]} price {draw.randint(1, 4)}"
        stay = draw.choice((None, 0, 1, 2, 3))
        line += "" if stay is None else f" stay {stay}"
        line += " maybe" if draw.random() < 0.3 else ""
        line += " common" if draw.random() < common else ""
        lines.append(line)
        for name in "xyz"[:draw.randint(1, most_fields)]:
            lines.append(f"  {name} {draw.choice(('yes', 'yes', '-1..3', 'lo mid hi'))}")
    return lines


def leaf(draw, sources):
    """An expression that names one field, or asks whether an answer is there."""
    at = draw.choice([at for at, line in enumerate(sources) if line.startswith("  ")])
    owner = [line for line in sources[:at] if not line.startswith("  ")][-1].split(" ")
    if "maybe" in owner and draw.random() < 0.3:
        return f"there {owner[1]}"
    name, form = sources[at].strip().split(" ", 1)
    if form == "yes":
        return f"{owner[1]}.{name}"
    if ".." in form:
        return f"{owner[1]}.{name} {draw.choice('<>=')} {draw.randint(-1, 3)}"
    if draw.random() < 0.3:
        return f"{owner[1]}.{name} in ({', '.join(draw.sample(WORDS, 2))})"
    return f"{owner[1]}.{name} = {draw.choice(WORDS)}"


def expression(draw, sources, depth):
    kind = draw.random()
    if depth == 0 or kind < 0.25:
        return leaf(draw, sources)
    parts = [expression(draw, sources, depth - 1) for _ in range(3)]
    if kind < 0.4:
        return f"not ({parts[0]})"
    if kind < 0.6:
        return f"({parts[0]} and {parts[1]})"
    if kind < 0.8:
        return f"({parts[0]} or {parts[1]})"
    numbers = [draw.randint(-1, 2) for _ in parts]
    weighed = ", ".join(f"{number} {part}" for number, part in zip(numbers, parts))
    return f"points({weighed}) {draw.choice('<>=')} {draw.randint(0, 3)}"


def program_with(draw, sources, cost=None, givens=0.4):
    """A program with these lines of sources; any given holds in one world at least."""
    while True:
        lines = [f"round {draw.randint(0, 2) if cost is None else cost}", *sources]
        if draw.random() < givens:
            lines.append(f"given {expression(draw, sources, 2)}")
        if draw.random() < 0.3:
            lines.append(f"rule low {expression(draw, sources, 1)}")
        for _ in range(draw.randint(1, 3)):
            more = "low or " if any(line.startswith("rule") for line in lines) and draw.random() < 0.5 else ""
            lines.append(f"decide {draw.choice(OUTCOMES)} if {more}{expression(draw, sources, 2)}")
        lines.append("otherwise halt")
        try:
            return Program("\n".join(lines))
        except (NoWorld, TooLarge):
            continue


def varied(draw, one, sources):
    """A program like another one, but for one more row ahead of the others, that seldom holds."""
    lines = one.text.split("\n")
    at = [at for at, line in enumerate(lines) if line.startswith("decide")][0]
    rule = f"{leaf(draw, sources)} and {leaf(draw, sources)} and {leaf(draw, sources)}"
    if sum(line.startswith("decide") for line in lines) == 12:
        lines.pop(at)
    lines.insert(at, f"decide {draw.choice(OUTCOMES)} if {rule}")
    try:
        return Program("\n".join(lines))
    except TooLarge:
        return one


def program(draw, least=1, most=3, common=0.25, most_fields=2, givens=0.4):
    """Any program."""
    sources = source_lines(draw, draw.randint(least, most), common, most_fields)
    return program_with(draw, sources, givens=givens)


def values_of(field):
    return range(field.span[0], field.span[1] + 1) if field.kind == "integer" else field.span


def answers_of(part):
    """All answers of a source of a program."""
    return ([None] if part.maybe else []) + list(product(*[values_of(field) for field in part.fields]))


def all_answers(one):
    """All tuples of an answer for each source of a program, worlds or not."""
    return list(product(*[answers_of(part) for part in one.parts]))


def all_worlds(one):
    return [answers for answers in all_answers(one) if is_world(one, answers)]


def truths(draw, one, subjects):
    """Pairs of these subjects with worlds that have the same answers of common sources."""
    found = all_worlds(one)
    first = draw.choice(found)
    places = [at for at, part in enumerate(one.parts) if part.common]
    alike = [world for world in found if all(world[at] == first[at] for at in places)]
    return tuple((subject, draw.choice(alike)) for subject in subjects)


def known_of(draw, one, world, share=0.5):
    """A standing with some facts that hold in a world, with lives up to the stays of their sources."""
    lines = []
    for part, answer in zip(one.parts, world):
        told = [(part.name, answer is not None)] if part.maybe else []
        if answer is not None:
            told += [(field.name, value) for field, value in zip(part.fields, answer)]
        longest = (None, 3, 2, 1, 0) if part.stay is None else tuple(range(part.stay + 1))
        for name, value in told:
            if draw.random() < share:
                lines.append((name, value, draw.choice(longest)))
    return Known(tuple(lines))
