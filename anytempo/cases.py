"""Cases: the search for a net in which no pair of moments is open, and the tree that shows that there is none.

While it is searched for, a tree is a ring row, or a tuple ("case", one, other, before, same, after) with the trees of
the three cases in place of their indices.
"""

from anytempo.nets import assumed
from anytempo.validation import WORDS


def decided(start, words):
    """(net, None) with a net in which words are assumed and no pair is open, or (None, tree) if there is none.

    The start is what begun or assumed returns.
    """
    net, ring = start
    if net is not None:
        net, ring = assumed(net, words)
    if net is None:
        return None, ring
    found, tree, _ = _searched(net, net)
    return found, tree


def can_be(start, words):
    """Whether words are right of moments by some tempo map."""
    return decided(start, words)[0] is not None


def _searched(net, ground):
    """A net below in which no pair is open, or None; else a tree, and the pairs whose cases above its rings need.

    The ground is the net from which the search began.
    """
    pair = net.open_pair()
    if pair is None:
        return net, None, []
    one, other = pair
    trees = {}
    needed = []
    for word in WORDS:
        if net.allows(one, word, other):
            found, tree, pairs = _searched(net.related(one, word, other), ground)
            # A tree that does not need this case shows as much without it.
            if found is not None or pair not in pairs:
                return found, tree, pairs
            trees[word] = tree
            needed = _joined(needed, pairs)
    for word in WORDS:
        if word not in trees:
            trees[word] = net.ring(one, word, other)
            needed = _joined(needed, _pairs_of(trees[word][2], ground))
    tree = ("case", one, other, trees["before"], trees["same"], trees["after"])
    return None, tree, [item for item in needed if item != pair]


def _pairs_of(steps, ground):
    """The pairs of moments, the smaller number first, whose cases the steps of a ring need."""
    found = []
    for kind, one, other in steps:
        if kind in ["later", "same"] and not ground.is_told(one, other):
            found.append((min(one, other), max(one, other)))
    return found


def _joined(pairs, others):
    """The pairs of two lists, each one once."""
    return pairs + [pair for pair in others if pair not in pairs]


def rows_of(tree, first=0):
    """The rows of a tree, in which its own row has the index first."""
    if tree[0] == "ring":
        return [tree]
    below = []
    indices = []
    for part in tree[3:]:
        indices.append(first + 1 + len(below))
        below = below + rows_of(part, indices[-1])
    return [(*tree[:3], *indices)] + below
