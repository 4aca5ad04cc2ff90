"""Sheets at the limits: of eight moments, with six facts that only a tree of many cases shows to contradict each other.

They were found by changing cues and facts at random and keeping what made the tree longer.
"""

from anytempo.amounts import Amount

HALF = Amount(1, 2)
HARD = [
    ([("a", "start", "seconds", 5), ("b", "a", "beats", -10), ("c", "b", "seconds", 12), ("d", "a", "seconds", -12),
      ("e", "d", "beats", 4), ("f", "c", "beats", 2), ("g", "b", "seconds", 9)],
     [("between", "beats", "start", "d", None, None), ("between", "seconds", "f", "b", None, 14),
      ("between", "seconds", "e", "f", None, HALF), ("between", "seconds", "f", "d", None, None),
      ("between", "beats", "e", "c", 4, 5), ("between", "beats", "start", "a", 0, HALF)]),
    ([("a", "start", "seconds", -2), ("b", "start", "seconds", -8), ("c", "start", "beats", 9), ("d", "b", "beats", 9),
      ("e", "a", "beats", -5), ("f", "e", "seconds", 12), ("g", "d", "seconds", -1)],
     [("between", "beats", "e", "d", Amount(5, 2), None), ("between", "seconds", "d", "c", -1, 8),
      ("between", "seconds", "g", "b", None, 11), ("between", "beats", "d", "f", None, Amount(9, 2)),
      ("between", "seconds", "f", "d", None, -5), ("between", "seconds", "c", "b", Amount(-17, 2), -6)]),
    ([("a", "start", "beats", -1), ("b", "a", "seconds", 10), ("c", "b", "beats", -1), ("d", "start", "seconds", 6),
      ("e", "a", "beats", 3), ("f", "e", "seconds", -10), ("g", "c", "seconds", 7)],
     [("between", "beats", "d", "g", 3, 11), ("between", "seconds", "d", "a", None, Amount(-23, 2)),
      ("order", "c", "before", "d"), ("between", "beats", "b", "d", None, Amount(15, 2)),
      ("between", "seconds", "b", "e", -6, None), ("apart", "beats", "f", "a", -2)]),
    ([("a", "start", "seconds", -12), ("b", "a", "beats", 5), ("c", "b", "seconds", -9), ("d", "c", "beats", 7),
      ("e", "b", "beats", -7), ("f", "a", "beats", 4), ("g", "d", "seconds", -9)],
     [("between", "beats", "c", "a", None, None), ("between", "seconds", "d", "f", -10, Amount(39, 2)),
      ("between", "beats", "g", "c", Amount(9, 2), None), ("apart", "seconds", "f", "start", 0),
      ("between", "beats", "d", "f", -12, None), ("between", "beats", "g", "c", None, None)]),
    ([("a", "start", "seconds", -7), ("b", "a", "beats", 7), ("c", "a", "beats", 10), ("d", "start", "seconds", 11),
      ("e", "c", "seconds", -12), ("f", "start", "beats", -8), ("g", "f", "seconds", 7)],
     [("between", "seconds", "a", "e", None, None), ("between", "beats", "e", "d", 8, 9),
      ("between", "beats", "a", "f", None, 8), ("between", "beats", "d", "g", -4, 15),
      ("between", "beats", "start", "g", 3, Amount(9, 2)), ("between", "seconds", "start", "f", -9, 7)]),
    ([("a", "start", "beats", -2), ("b", "a", "beats", 5), ("c", "start", "seconds", -6), ("d", "start", "seconds", 9),
      ("e", "a", "seconds", -1), ("f", "c", "beats", 5), ("g", "b", "seconds", -9)],
     [("between", "seconds", "f", "start", Amount(7, 2), 12), ("between", "seconds", "d", "start", None, None),
      ("between", "beats", "g", "e", -4, None), ("between", "seconds", "g", "a", None, -5),
      ("between", "beats", "g", "b", -2, None), ("apart", "beats", "d", "g", -5)]),
    ([("a", "start", "beats", 4), ("b", "start", "seconds", 6), ("c", "b", "beats", -11), ("d", "c", "seconds", 7),
      ("e", "b", "beats", -3), ("f", "d", "beats", -7), ("g", "a", "seconds", 10)],
     [("between", "beats", "e", "f", -10, Amount(5, 2)), ("order", "e", "before", "d"),
      ("between", "seconds", "c", "start", -13, 12), ("between", "beats", "e", "start", None, None),
      ("between", "seconds", "f", "e", Amount(-19, 2), -4), ("between", "beats", "a", "g", -HALF, Amount(3, 2))]),
]
# A sheet with more than a thousand orders.
MANY = [("a", "start", "seconds", Amount(-2, 3)), ("b", "a", "beats", -3), ("c", "b", "seconds", 8),
        ("d", "b", "beats", -4), ("e", "d", "seconds", 10), ("f", "start", "beats", -8), ("g", "c", "beats", -6)]
