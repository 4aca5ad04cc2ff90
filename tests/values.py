"""Values of every kind that the document's point 6 names, and ways to check what is raised."""

from anytempo.amounts import Amount
from anytempo.errors import CueError, InvalidName
from anytempo.maps import TempoMap
from anytempo.sheets import Sheet


def any_values():
    """New objects of every kind: none of them an integer, a string or an amount."""
    return [
        None,
        True,
        False,
        [],
        [1],
        ["beats"],
        (),
        (1,),
        (1, 2),
        ("before",),
        {},
        {"a": 1},
        {1: "beats", "b": [None, (True, {})]},
        [[[[1]]]],
        CueError("a"),
        InvalidName("a"),
        Sheet([]),
        Sheet([("a", "start", "beats", 1)]),
        TempoMap(),
        TempoMap([(0, 0), (1, 2)]),
    ]


def all_values():
    """New objects of every kind, integers, strings and amounts among them."""
    return any_values() + strings() + integers() + amounts()


def values_without(*kinds):
    """Values of every kind but these classes."""
    return [value for value in all_values() if not isinstance(value, kinds)]


def lists(value):
    """A value with lists in place of all tuples."""
    return [lists(item) for item in value] if isinstance(value, (list, tuple)) else value


def tuples(value):
    """A value with tuples in place of all lists."""
    return tuple(tuples(item) for item in value) if isinstance(value, (list, tuple)) else value


def sixty(seed):
    """An amount with tops and bottoms of sixty digits, another one for each seed."""
    return Amount(10 ** 59 + 7919 * seed * seed + 3 * seed + 1, 10 ** 60 - 1 - 104729 * seed)


def strings():
    """Strings of several forms, none of them a unit or a word."""
    return ["", " ", "a", "1", "0", "-1", "1/2", "start", "beat", "BEATS", "Before", "before ", "\n", "a\nb", "x" * 100]


def integers():
    return [0, 1, -1, 2, 7, 10 ** 30, -(10 ** 30), 10 ** 59 + 1, 1 - 10 ** 60]


def amounts():
    return [Amount(0), Amount(1), Amount(1, 2), Amount(-7, 3), Amount(10 ** 29 + 1, 10 ** 30)]


class Checks:
    """Mixed into test cases."""

    def raised(self, kind, call, *args, **more):
        """The exception of exactly this class that a call raises."""
        with self.assertRaises(kind) as caught:
            call(*args, **more)
        self.assertEqual(caught.exception.__class__, kind)
        return caught.exception

    def check_raises(self, kind, field, value, call, *args, **more):
        """A call raises this class, and its field holds the very object."""
        error = self.raised(kind, call, *args, **more)
        self.assertIs(getattr(error, field), value)

    def check_turns(self, call, good, wrong):
        """The first of several wrong arguments is told: wrong has (value, class, field, object) for each argument."""
        for index in range(len(good)):
            value, kind, field, told = wrong[index]
            later = [item[0] for item in wrong[index + 1:]]
            self.check_raises(kind, field, told, call, *good[:index], value, *good[index + 1:])
            self.check_raises(kind, field, told, call, *good[:index], value, *later)
