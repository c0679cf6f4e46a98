"""[17] words and the tree: measured by paths that are found step by step."""

import itertools
import random
import unittest

import helper
from helper import check
from sparehop.words import (
    far_end, inverse, is_on_way, joined, median_word, near_end, nearest, reduced, tree_distance, way,
)

WORDS = helper.reduced_words("abc", 3)
FEW = helper.reduced_words("ab", 4)


def neighbours(word, letters="abc"):
    """The couples of an edge at a vertex and its other end."""
    for letter in letters:
        other = helper.plain_reduced((*word, letter))
        yield (min(word, other, key=len), letter), other


def plain_ways(one, words):
    """The path from one to each of the words, which have the beginnings of each, found by going along edges."""
    ways = {one: ()}
    waiting = [one]
    for word in waiting:
        for edge, other in neighbours(word):
            if other in words and other not in ways:
                ways[other] = (*ways[word], edge)
                waiting.append(other)
    return ways


WAYS = {one: plain_ways(one, WORDS) for one in WORDS}
EDGES = sorted({edge for ways in WAYS.values() for told in ways.values() for edge in told})


def on_side(word, side):
    """Whether a word is on a side: nearer to the end that stands for it than to the other end."""
    edge, end = side
    other = edge[0] if end != edge[0] else (*edge[0], edge[1])
    return len(WAYS[word][end]) < len(WAYS[word][other])


def plain_nearest(one, sides):
    on_all = [word for word in WORDS if all(on_side(word, side) for side in sides)]
    ranked = sorted((len(WAYS[one][word]), word) for word in on_all)
    assert len(ranked) < 2 or ranked[0][0] < ranked[1][0]
    return ranked[0][1] if ranked else None


def both_sides(edge):
    return [(edge, edge[0]), (edge, (*edge[0], edge[1]))]


class Words(unittest.TestCase):

    def test_reduced(self):
        for many in range(7):
            for word in itertools.product("abc", repeat=many):
                check(self, helper.plain_reduced(word), reduced, word)
                check(self, tuple(reversed(word)), inverse, word)

    def test_long_words(self):
        chosen = random.Random(16)
        for letters in ("a", "ab", "abcdefgh"):
            word = tuple(chosen.choice(letters) for _ in range(2000))
            check(self, helper.plain_reduced(word), reduced, word)
            check(self, (), joined, word, inverse(word))
        word = ("a", "b") * 1000
        check(self, word, reduced, word)
        check(self, (), reduced, word + inverse(word))
        check(self, 2001, tree_distance, word, ("b",))
        check(self, ("a", "b"), median_word, word, ("a", "b", "c"), ())

    def test_names_of_more_letters(self):
        check(self, ("web",), reduced, ("web", "w", "eb", "eb", "w"))
        check(self, ((("web",), "a"), ((), "web")), way, ("web", "a"), ())

    def test_joined(self):
        short = [word for many in range(4) for word in itertools.product("ab", repeat=many)]
        for first, second in itertools.product(short, repeat=2):
            check(self, helper.plain_reduced(first + second), joined, first, second)

    def test_ways(self):
        for one, other in itertools.product(WORDS, repeat=2):
            check(self, WAYS[one][other], way, one, other)
            check(self, len(WAYS[one][other]), tree_distance, one, other)

    def test_an_edge_is_on_a_way_exactly_if_it_parts_the_ends(self):
        for one, other in itertools.product(WORDS[::2], WORDS):
            for edge in EDGES:
                check(self, edge in WAYS[one][other], is_on_way, one, other, edge)
                sides = near_end(one, edge) != near_end(other, edge)
                self.assertEqual(sides, edge in WAYS[one][other])

    def test_ends(self):
        for one, edge in itertools.product(WORDS, EDGES):
            low, high = edge[0], (*edge[0], edge[1])
            near, far = sorted([low, high], key=lambda end: len(WAYS[one][end]))
            check(self, near, near_end, one, edge)
            check(self, far, far_end, one, edge)

    def test_the_far_end_comes_later_on_a_way(self):
        for one, other in itertools.product(WORDS, repeat=2):
            at = one
            for edge in way(one, other):
                self.assertEqual(near_end(one, edge), at)
                at = far_end(one, edge)
            self.assertEqual(at, other)

    def test_medians(self):
        for three in itertools.combinations_with_replacement(WORDS, 3):
            on_paths = []
            for first, second in itertools.combinations(three, 2):
                on_paths.append({first} | {end for edge in WAYS[first][second] for _, end in both_sides(edge)})
            (expected,) = set.intersection(*on_paths)
            check(self, expected, median_word, *three)
            for other in itertools.permutations(three):
                self.assertEqual(median_word(*other), expected)

    def test_one_word_the_beginning_of_another(self):
        check(self, ((("a",), "b"), (("a", "b"), "a")), way, ("a",), ("a", "b", "a"))
        check(self, ((("a", "b"), "a"), (("a",), "b")), way, ("a", "b", "a"), ("a",))
        check(self, ("a", "b"), median_word, ("a",), ("a", "b"), ("a", "b", "a"))
        check(self, ("a", "b"), nearest, ("a", "b", "c"), [((("a", "b"), "c"), ("a", "b"))])

    def test_equal_words_and_empty_ones(self):
        for word in WORDS:
            check(self, (), way, word, word)
            check(self, 0, tree_distance, word, word)
            check(self, word, median_word, word, word, ())
            check(self, word, nearest, word, [])
            check(self, word, nearest, word, ())
        check(self, (), reduced, ())
        check(self, (), inverse, ())
        check(self, (), joined, (), ())

    def test_nearest_on_one_side_and_on_two(self):
        edges = [edge for edge in EDGES if len(edge[0]) < 2]
        sides = [side for edge in edges for side in both_sides(edge)]
        for one in WORDS:
            for side in sides:
                check(self, plain_nearest(one, [side]), nearest, one, [side])
        for one in WORDS[::3]:
            for pair in itertools.product(sides, repeat=2):
                check(self, plain_nearest(one, pair), nearest, one, pair)

    def test_nearest_on_many_sides(self):
        chosen = random.Random(17)
        found = {True: 0, False: 0}
        for _ in range(1500):
            meet = chosen.choice(WORDS)
            sides = [chosen.choice(both_sides(chosen.choice(EDGES))) for _ in range(chosen.randint(0, 5))]
            if chosen.random() < 0.7:
                # With a word that all of these sides have in common.
                sides = [(edge, near_end(meet, edge)) for edge, _ in sides]
            one = chosen.choice(WORDS)
            expected = plain_nearest(one, sides)
            found[expected is None] += 1
            check(self, expected, nearest, one, sides)
            check(self, expected, nearest, one, tuple(sides))
            pairs = [nearest(one, list(pair)) for pair in itertools.combinations(sides, 2)]
            self.assertEqual(expected is None, None in pairs)
        self.assertGreater(min(found.values()), 100)

    def test_two_sides_without_a_common_word(self):
        check(self, None, nearest, ("c",), [(((), "a"), ("a",)), (((), "b"), ("b",))])
        check(self, None, nearest, (), [(((), "a"), ("a",)), (((), "a"), ())])
        check(self, None, nearest, (), [((("a",), "b"), ("a", "b")), (((), "a"), ())])

    def test_with_two_letters(self):
        for one, other in itertools.product(FEW, repeat=2):
            check(self, tuple(plain_ways(one, FEW)[other]), way, one, other)

    def test_with_one_letter(self):
        check(self, (((), "a"),), way, (), ("a",))
        check(self, (((), "a"),), way, ("a",), ())
        check(self, ("a",), nearest, (), [(((), "a"), ("a",))])


if __name__ == "__main__":
    unittest.main()
