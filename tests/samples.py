"""Programs that the tests use, and what they do with them."""

from onlyasked.facts import Facts
from onlyasked.programs import Program
from onlyasked.standings import Known

LOAN = """round 1
source person price 2 stay 2
  age 0..120
  home inside outside
source work price 3 stay 1 maybe
  income 0..9999
  fixed yes
source market price 1 stay 0 common
  open yes
given not there work or person.age > 13
rule adult person.age > 17
rule rich work.income > 2999
decide refuse if not adult
decide grant if points(2 rich, 1 work.fixed, 1 person.home = inside) > 2 and market.open
otherwise look"""

FIVE = "round 0\nsource a price 1 maybe\n  n 0..9\ndecide go if not a.n > 4\notherwise halt"
SIX = "round 0\nsource a price 1\n  n 0..9\n  w lo mid hi\ndecide go if a.n > 4 and a.w = mid\notherwise halt"

EIGHT = ("round 0\nsource a price 1\n  x yes\n  y yes\n  z yes\n"
         "decide grant if points(1 a.x, 1 a.y, 1 a.z) > 1\notherwise refuse")
BOTH = ("round 1\nsource a price 1 stay 0\n  x yes\nsource b price 1 stay 0\n  x yes\n"
        "decide grant if a.x and b.x\notherwise refuse")
POINTER = ("round 1\nsource s price 1\n  side left right\nsource u price 5\n  told good bad dunno\n"
           "source v price 5\n  told good bad dunno\n"
           "given s.side = left and not u.told = dunno and v.told = dunno or "
           "s.side = right and u.told = dunno and not v.told = dunno\n"
           "decide grant if u.told = good or v.told = good\notherwise refuse")

# Rows 0 and 1 have the same outcome: with rows b must be asked, too.
TWICE = ("round 1\nsource a price 1\n  x yes\nsource b price 5\n  x yes\n"
         "decide go if a.x and b.x\ndecide go if a.x\notherwise halt")
# All three sources at once are the only least first round: each further round costs 2.
CLUB = ("round 2\nsource a price 1 stay 2\n  x yes\nsource b price 3 stay 1 maybe\n  y yes\n"
        "source m price 4 stay 3 common\n  z yes\ndecide go if a.x and b.y and m.z\notherwise halt")

HEAD = ("round 0", "source a price 1", "  n -5..9", "  w lo mid hi", "  b yes", "source m price 1 maybe", "  x yes")


def any_values():
    """Values of all sorts, also ones that cannot be a key of a dict, and what the package returned."""
    tuples, lists, dicts = 1, 1, 1
    for _ in range(40):
        tuples, lists, dicts = (tuples,), [lists], {"a": dicts}
    return [
        0, 1, -1, 10 ** 30, True, False, None, "", "a", "a.n", "\n", "x" * 20000, (), (1,), ((),), ((None,),), [], ["a"],
        {}, {"a": 1}, [()], ([],), ({},), tuples, lists, dicts, (tuples, lists, dicts), Facts(), Facts((("a.n", 1),)),
        Program(FIVE), Known(), Known((("a.n", 1, None),)),
    ]


def with_rows(*rows):
    """The text of a program with sources a (n, w, b) and m (maybe, x), these lines, and `otherwise halt`."""
    return "\n".join([*HEAD, *rows, "otherwise halt"])


def raised(error, call, *given):
    """What the error keeps that a call raises, which must be of just this class."""
    try:
        call(*given)
    except error as caught:
        if caught.__class__ is not error:
            raise AssertionError(f"{caught!r} is no {error.__name__}") from caught
        return caught.value
    raise AssertionError(f"{error.__name__} was not raised")


def same(one, other):
    """Whether two values are alike, compared by sort, too."""
    if type(one) is not type(other):
        return False
    if isinstance(one, (tuple, list)):
        return len(one) == len(other) and all(same(x, y) for x, y in zip(one, other))
    return one == other


def facts_of(**told):
    """Facts by names in which `_` stands for the point."""
    return Facts(tuple([(name.replace("_", "."), value) for name, value in told.items()]))
