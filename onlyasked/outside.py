"""The truth about some subjects, of which answers are bought; each stays as it is while it is promised."""

from onlyasked.errors import BadAnswers, BadWorld, BadWorlds, NoSource, NoSubject, TooSoon
from onlyasked.memory import is_good, until_of
from onlyasked.sources import part_named
from onlyasked.spelling import is_name
from onlyasked.worlds import is_world

MOST_SUBJECTS = 6


def common_answers(program, world):
    """The answers of the common sources in a world."""
    return [answer for part, answer in zip(program.parts, world) if part.common]


def is_subject_world(program, value):
    """Whether any value is a pair of a name and a world."""
    if not isinstance(value, tuple) or len(value) != 2:
        return False
    return isinstance(value[0], str) and is_name(value[0]) and is_world(program, value[1])


def are_worlds(program, value):
    """Whether any value is the worlds of an outside."""
    if not isinstance(value, tuple) or not 1 <= len(value) <= MOST_SUBJECTS:
        return False
    if not all([is_subject_world(program, one) for one in value]):
        return False
    if len(set([subject for subject, _ in value])) < len(value):
        return False
    commons = [common_answers(program, world) for _, world in value]
    return all([one == commons[0] for one in commons])


def refuse_no_subject(outside, value):
    if value not in outside.subjects:
        raise NoSubject(value)


def refuse_no_source(outside, value):
    if value not in outside.program.sources:
        raise NoSource(value)


def with_other(program, world, source, answer):
    """Answers like those of a world, but for one source."""
    return tuple([answer if name == source else one for name, one in zip(program.sources, world)])


class Outside:
    """An outside, with the properties program, time, subjects and paid."""

    def __init__(self, program, worlds):
        if not are_worlds(program, worlds):
            raise BadWorlds(worlds)
        self.program = program
        self.time = 0
        self.subjects = tuple(sorted([subject for subject, _ in worlds]))
        self.paid = 0
        self._truths = {subject: world for subject, world in worlds}
        # For what is promised the last time for which it is; of a common source for the subject None.
        self._promises = {}

    def _place(self, part, subject):
        """Where a promise of a source for a subject is kept."""
        return (part.name, None if part.common else subject)

    def _refuse_too_soon(self, part, subject):
        place = self._place(part, subject)
        if place in self._promises and is_good(self._promises[place], self.time):
            raise TooSoon(part.name)

    def truth(self, subject):
        """The present world of a subject; NoSubject."""
        refuse_no_subject(self, subject)
        return self._truths[subject]

    def ask(self, source, subject):
        """The present answer, which is paid and promised; NoSource, NoSubject."""
        refuse_no_source(self, source)
        refuse_no_subject(self, subject)
        part = part_named(self.program, source)
        self.paid += part.price
        self._promises[self._place(part, subject)] = until_of(self.time, part.stay)
        return self._truths[subject][self.program.sources.index(source)]

    def put(self, subject, world):
        """Makes a world that of a subject; NoSubject, BadWorld, TooSoon."""
        refuse_no_subject(self, subject)
        before = self._truths[subject]
        if not is_world(self.program, world):
            raise BadWorld(world)
        if common_answers(self.program, world) != common_answers(self.program, before):
            raise BadWorld(world)
        for part, answer, told in zip(self.program.parts, world, before):
            if answer != told:
                self._refuse_too_soon(part, subject)
        self._truths[subject] = world

    def put_common(self, source, answer):
        """Makes an answer of a common source that of all subjects; NoSource, BadAnswers, TooSoon."""
        refuse_no_source(self, source)
        part = part_named(self.program, source)
        if not part.common:
            raise NoSource(source)
        truths = {name: with_other(self.program, self._truths[name], source, answer) for name in self.subjects}
        if not all([is_world(self.program, world) for world in truths.values()]):
            raise BadAnswers(answer)
        if truths != self._truths:
            self._refuse_too_soon(part, None)
        self._truths = truths

    def release(self, source, subject):
        """Takes back what is promised of a source; NoSource, NoSubject."""
        refuse_no_source(self, source)
        refuse_no_subject(self, subject)
        self._promises.pop(self._place(part_named(self.program, source), subject), None)

    def tick(self):
        """Time is one more."""
        self.time += 1

    def copy(self):
        """An independent outside with the same content."""
        twin = Outside(self.program, tuple([(subject, self._truths[subject]) for subject in self.subjects]))
        twin.time = self.time
        twin.paid = self.paid
        twin._promises = {place: self._promises[place] for place in self._promises}
        return twin
