"""The errors of the package: each keeps what it was made with as `value`."""


class AskError(ValueError):
    """What all errors of the package are."""

    def __init__(self, value):
        self.value = value


class BadProgram(AskError):
    """The line of a text that is not written as a program is; 0 for what is no text."""


class Doubled(AskError):
    """The first line with a name or word that must not be there a second time."""


class Unnamed(AskError):
    """The first line that uses a name that there is not, or not in this way."""


class RingOfRules(AskError):
    """Rules each of which names the next one, the last one the first one."""


class TooLarge(AskError):
    """The number of combinations of marks of a program that has too many."""


class NoWorld(AskError):
    """Made with None: no world agrees with all givens."""


class BadWorld(AskError):
    """A value that is no world."""


class NoName(AskError):
    """A value that is none of the names."""


class BadFact(AskError):
    """A name that is none of the program, or has a value that is none of its field."""


class BadFacts(AskError):
    """A value that is no tuple of facts."""


class Unlike(AskError):
    """The least name for which facts that are put together differ."""


class Impossible(AskError):
    """Facts with which no world agrees."""


class Settled(AskError):
    """The only result that there is."""


class Open(AskError):
    """The results of which there are several."""


class BadAnswers(AskError):
    """A value that is no tuple of answers as they can come."""


class OtherSources(AskError):
    """Made with None: the sources are not the same."""


class BadTable(AskError):
    """A value that is no table."""


class Clash(AskError):
    """Answers for which all three programs differ."""


class BadWorlds(AskError):
    """A value that is none of the worlds of an outside, or subjects without a world."""


class NoSubject(AskError):
    """A value that is no subject."""


class NoSource(AskError):
    """A value that is no source."""


class TooSoon(AskError):
    """The first source whose promised answer would be another one."""


class Begun(AskError):
    """A subject that is open or decided."""


class NoCase(AskError):
    """A value that is no open subject."""


class NoPage(AskError):
    """A value that is no decided subject."""


class NothingToUndo(AskError):
    """Made with None: no revise is left to take back."""


class BadText(AskError):
    """The line of a text that is not so written; 0 for what is no text."""


class OtherTime(AskError):
    """The time of a text that is not that of the outside."""


class BadLine(AskError):
    """A value that is no line for the desk."""
