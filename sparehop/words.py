"""Words and the tree whose vertices the reduced ones are.

The words that begin with the longer end of an edge are the one side of it, all others are the
other side: each of them is nearer to the shorter end.
"""


def reduced(word):
    """Return the REDUCED WORD to which a WORD leads."""
    items = []
    for item in word:
        if items and items[-1] == item:
            items.pop()
        else:
            items.append(item)
    return tuple(items)


def joined(first, second):
    """Return the REDUCED WORD of the items of two WORDS, one after the other."""
    return reduced(first + second)


def inverse(word):
    """Return a WORD from its last item to its first."""
    return word[::-1]


def common_length(one, other):
    """Return the length of the longest common beginning of two words."""
    length = 0
    while length < min(len(one), len(other)) and one[length] == other[length]:
        length += 1
    return length


def begins_with(word, beginning):
    """Tell whether a word begins with another one, or is equal to it."""
    return word[:len(beginning)] == beginning


def way(one, other):
    """Return the WAY from one REDUCED WORD to another."""
    common = common_length(one, other)
    back = [(one[:length], one[length]) for length in reversed(range(common, len(one)))]
    on = [(other[:length], other[length]) for length in range(common, len(other))]
    return tuple(back + on)


def walk(one, other):
    """Return the services of the EDGES of the WAY from one REDUCED WORD to another, in order."""
    # Back to the root and on to the other one: what does not cancel out is the WAY.
    return joined(inverse(one), other)


def tree_distance(one, other):
    """Return the number of the EDGES of the WAY from one REDUCED WORD to another."""
    return len(one) + len(other) - 2 * common_length(one, other)


def longer_end(edge):
    """Return the end of an EDGE to which it adds its service."""
    word, service = edge
    return (*word, service)


def is_on_way(one, other, edge):
    """Tell whether an EDGE is on the WAY from one REDUCED WORD to another."""
    end = longer_end(edge)
    return begins_with(one, end) != begins_with(other, end)


def near_end(one, edge):
    """Return the end of an EDGE that is on the same SIDE as a REDUCED WORD."""
    end = longer_end(edge)
    return end if begins_with(one, end) else edge[0]


def far_end(one, edge):
    """Return the end of an EDGE that is not on the same SIDE as a REDUCED WORD."""
    end = longer_end(edge)
    return edge[0] if begins_with(one, end) else end


def median_word(one, other, third):
    """Return the REDUCED WORD that lies on the paths between each two of three."""
    # Two of the three common beginnings are equal, and the third one, where two words go on
    # together, is at least as long: there the three paths meet.
    pairs = ((one, other), (one, third), (other, third))
    return max([first[:common_length(first, second)] for first, second in pairs], key=len)


def nearest(one, sides):
    """Return the REDUCED WORD on all these SIDES that is nearest to one, None if there is none.

    sides has couples of an EDGE and the end of it that stands for the SIDE.
    """
    inside = [word for edge, word in sides if word == longer_end(edge)]
    outside = [longer_end(edge) for edge, word in sides if word == edge[0]]
    top = max([(), *inside], key=len)
    # Inside all the SIDES of longer ends are exactly the words that begin with top, if top begins
    # with each of these ends. If top begins with the longer end of a SIDE that stands outside,
    # all of them are barred; otherwise top itself is on all SIDES.
    if not all([begins_with(top, end) for end in inside]) or any([begins_with(top, end) for end in outside]):
        return None
    if not begins_with(one, top):
        return top
    # On the path from top to one, the first step that leaves a SIDE goes to the shortest of these ends.
    barred = [end for end in outside if begins_with(one, end)]
    return min(barred, key=len)[:-1] if barred else one
