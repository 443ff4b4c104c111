"""A house by the words of points 14 and 15 alone, for the tests: it keeps all that ever happened, and looks back."""

from onlyasked.errors import NoPage
from onlyasked.outside import Outside
from onlyasked.plans import plan
from onlyasked.settling import kept, possible
from onlyasked.standings import Known
from onlyasked.worlds import is_world


class Fact:
    """A fact with the last moment at which it is good (None: for ever), and the source that it is of."""

    def __init__(self, source, name, value, until):
        self.source, self.name, self.value, self.until = source, name, value, until

    def is_good(self, time):
        return self.until is None or self.until >= time

    def line(self, time):
        return (self.name, self.value, None if self.until is None else self.until - time)


class Model:
    """Like a House with its Outside, but slow; what only undo wants to know is looked up in what happened."""

    def __init__(self, program, worlds, rows=False):
        self.program, self.rows = program, rows
        self.outside = Outside(program, worlds)
        self.spent = 0
        self.pages = []
        self.open_ones = {}
        self.decided = {}
        self.common = []
        self.late = []
        self.revisions = []
        self.happened = []

    @property
    def time(self):
        return self.outside.time

    def part(self, source):
        return self.program.parts[self.program.sources.index(source)]

    def good(self, facts):
        return [fact for fact in facts if fact.is_good(self.time)]

    def known(self, facts):
        return Known(tuple(fact.line(self.time) for fact in self.good(facts)))

    def standing(self, subject):
        return self.known(self.open_ones[subject] + self.common)

    def told(self, subject):
        return plan(self.program, self.standing(subject), rows=self.rows).price

    def last_page(self, subject):
        return [page for page in self.pages if page["subject"] == subject][-1]

    def page_facts(self, page):
        return [Fact(name.split(".")[0], name, value, None if life is None else page["time"] + life)
                for name, value, life in page["known"].lines]

    def begin(self, subject):
        self.open_ones[subject] = []
        self.decide([subject])

    def decide(self, subjects):
        for subject in sorted(subjects):
            known = self.standing(subject)
            if len(possible(self.program, known.facts, rows=self.rows)) != 1:
                continue
            least = kept(self.program, known.facts, rows=self.rows)
            rows = possible(self.program, least, rows=True)
            self.pages.append({"subject": subject, "time": self.time, "outcome": possible(self.program, least)[0],
                               "row": rows[0] if len(rows) == 1 else None,
                               "known": Known(tuple(line for line in known.lines if line[0] in least))})
            self.decided[subject] = self.page_facts(self.pages[-1])
            del self.open_ones[subject]
            self.happened.append(("closed", subject))

    def come(self, source, subject, until, answer):
        part = self.part(source)
        if until is not None and until < self.time:
            return
        facts = [Fact(source, source, answer is not None, until)] if part.maybe else []
        if answer is not None:
            facts += [Fact(source, field.name, value, until) for field, value in zip(part.fields, answer)]
        if part.common:
            self.common = self.taken(self.common, facts)
        elif subject in self.open_ones:
            self.open_ones[subject] = self.taken(self.open_ones[subject], facts)

    def taken(self, known, facts):
        """What is known with the facts of an answer in the place of those of its source, if none of these is longer."""
        until = facts[0].until
        of_it = [fact for fact in self.good(known) if fact.source == facts[0].source]
        if any(until is not None and (fact.until is None or fact.until > until) for fact in of_it):
            return known
        return [fact for fact in known if fact.source != facts[0].source] + facts

    def go(self, troubles=()):
        before = {subject: self.standing(subject) for subject in self.open_ones}
        self.outside.tick()
        late, self.late = self.late, []
        for one in late:
            self.come(*one)
        self.decide(list(self.open_ones))
        asks = []
        for subject in sorted(self.open_ones):
            for source in plan(self.program, before[subject], rows=self.rows).asks:
                place = (source, None if self.part(source).common else subject)
                if place not in [one[:2] for one in asks]:
                    asks.append((*place, subject))
        words = []
        for ask, word in zip(asks, list(troubles) + ["ok"] * len(asks)):
            words.append("none" if "crash" in words else word)
        arrived = []
        for (source, place, subject), word in zip(asks, words):
            if word in ("ok", "lost", "late", "twice", "crash"):
                answer = self.outside.ask(source, subject)
                stay = self.part(source).stay
                told = (source, place, None if stay is None else self.time + stay, answer)
                self.spent += self.part(source).price
                if word in ("ok", "twice"):
                    arrived.append(told)
                if word in ("late", "twice"):
                    self.late.append((word, told))
        if "crash" in words:
            arrived = []
            self.late = [one for one in self.late if one[0] == "late"]
        self.late = [one[1] for one in self.late]
        if any(word not in ("down", "none") for word in words):
            self.spent += self.program.round_price
        for one in arrived:
            self.come(*one)
        self.decide(list(self.open_ones))
        return tuple((source, place, word) for (source, place, _), word in zip(asks, words))

    def rest(self, subject):
        return self.known(self.decided[subject])

    def open(self, subject):
        facts = self.decided.pop(subject)
        self.open_ones[subject] = [fact for fact in self.good(facts) if not self.part(fact.source).common]

    def bad_worlds(self, program):
        return tuple(name for name in self.outside.subjects if not is_world(program, self.outside.truth(name)))

    def turn(self, program, again):
        self.program = self.outside.program = program
        standing = [subject for subject in sorted(self.decided) if subject in again or
                    possible(program, self.last_page(subject)["known"].facts) == (self.last_page(subject)["outcome"],)]
        opened = [subject for subject in sorted(self.decided) if subject not in standing]
        for subject in opened:
            self.open(subject)
        return tuple(standing), tuple(opened)

    def revise(self, program):
        before = self.program
        found = self.turn(program, ())
        self.revisions.append((before, found[1], len(self.happened)))
        self.decide(list(self.open_ones))
        return found

    def is_again(self, revision, subject):
        """Whether undo would decide a subject that a revision opened again by its page, by all that happened since."""
        since = self.happened[revision[2]:]
        if ("closed", subject) in since:
            return False
        for kind, *told in since:
            if kind == "news":
                source, name, time = told
                if name in (None, subject) and any(fact.source == source and fact.is_good(time)
                                                   for fact in self.page_facts(self.last_page(subject))):
                    return False
        return True

    def again_of(self, revision):
        return tuple(subject for subject in revision[1] if self.is_again(revision, subject))

    def undo(self):
        revision = self.revisions[-1]
        again = self.again_of(revision)
        self.revisions.pop()
        for subject in again:
            del self.open_ones[subject]
            self.decided[subject] = self.page_facts(self.last_page(subject))
            self.happened.append(("closed", subject))
        found = self.turn(revision[0], again)
        self.decide(list(self.open_ones))
        return found

    def news(self, source, subject):
        common = self.part(source).common
        names = self.outside.subjects if common else (subject,)
        self.happened.append(("news", source, None if common else subject, self.time))
        self.late = [one for one in self.late if one[0] != source or one[1] not in (None, subject)]
        if common:
            self.common = [fact for fact in self.common if fact.source != source]
        opened = []
        for name in names:
            if name in self.open_ones:
                self.open_ones[name] = [fact for fact in self.open_ones[name] if fact.source != source]
            if name in self.decided:
                good = self.good(self.decided[name])
                self.decided[name] = [fact for fact in good if fact.source != source]
                if len(self.decided[name]) < len(good):
                    opened.append(name)
        for name in opened:
            self.open(name)
        self.decide(opened)
        return tuple(opened)

    def again(self, subject):
        self.open(subject)
        self.decide([subject])


def state_of(house):
    """All that can be asked of a House, or told of a Model."""
    outside = house.outside
    found = {"time": outside.time, "paid": outside.paid, "spent": house.spent, "program": house.program.text,
             "outside": outside.program.text, "truths": [outside.truth(name) for name in outside.subjects]}
    if isinstance(house, Model):
        found["cases"] = tuple(sorted(house.open_ones))
        found["pages"] = [tuple(page.values()) for page in house.pages]
        found["rests"] = {name: house.rest(name) for name in house.decided}
        found["decisions"] = {name: tuple(house.last_page(name).values()) for name in house.decided}
    else:
        found["cases"] = house.cases
        found["pages"] = [told_of(page) for page in house.pages]
        decided = [name for name in outside.subjects if has_page(house, name)]
        found["rests"] = {name: house.rest(name) for name in decided}
        found["decisions"] = {name: told_of(house.page(name)) for name in decided}
    found["standings"] = {name: house.standing(name) for name in found["cases"]}
    found["told"] = {name: house.told(name) for name in found["cases"]}
    return found


def told_of(page):
    return (page.subject, page.time, page.outcome, page.row, page.known)


def has_page(house, subject):
    try:
        house.page(subject)
    except NoPage:
        return False
    return True


def late_of(house):
    """What is on its way and can still come, as lines of the text of a house tell it."""
    found = []
    for source, subject, until, answer in house.late:
        if until is None or until > house.time:
            found.append((source, subject, None if until is None else until - house.time - 1, answer))
    return found
