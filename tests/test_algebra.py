"""Tests of guides made of guides: forbidding labels, and joining."""

import itertools
import unittest

import reference
import reference_guides
from examples import (
    ask_reply, example_links, guide_of, picture, reachable_labels, reason_of, ring, small_guide, some_guides,
    some_partners, spoil,
)
from allwhotalk.algebra import forbid, join
from allwhotalk.guides import Guide, build, form, least
from allwhotalk.partners import follows

LABELS = ["!a", "!b", "?x"]
NO_NODES = Guide(["a", "b"], ["x"], [])


def nodes_of(guide):
    """The moves, the forbidden labels and the clauses of each node."""
    return [(node.moves, node.forbidden, node.clauses) for node in guide.nodes]


def subsets(items):
    return [list(some) for size in range(len(items) + 1) for some in itertools.combinations(items, size)]


class ForbidTest(unittest.TestCase):
    def test_no_label(self):
        self.assertEqual(form(forbid(small_guide(), [])), form(small_guide()))
        example = build(ask_reply(), example_links())
        self.assertEqual(form(forbid(example, [])), form(example))
        self.assertIsInstance(forbid(small_guide(), []), Guide)

    def test_some(self):
        guide = forbid(small_guide(), ["!b"])
        self.assertEqual((guide.inputs, guide.outputs), (["a", "b"], ["x"]))
        # Behind it the clause ["?x"] of node 1 is a part of the other one.
        self.assertEqual(nodes_of(guide), [
            ([("!a", 1)], ["!b", "?x"], [["!a"]]),
            ([("?x", 2)], ["!a", "!b"], [["?x"]]),
            ([], ["!a", "!b", "?x"], [["final"]]),
        ])
        guide = forbid(small_guide(), ["?x"])
        self.assertEqual(nodes_of(guide), [
            ([("!a", 1)], ["!b", "?x"], [["!a"]]),
            ([("!b", 0)], ["!a", "?x"], [["!b"], ["final"]]),
        ])

    def test_several_in_any_order_and_twice(self):
        guide = guide_of(([("!a", 0), ("!b", 0), ("?x", 0)], [], [["!a", "!b", "?x", "final"]]))
        expected = [([("!b", 0)], ["!a", "?x"], [["!b", "final"]])]
        for labels in (["!a", "?x"], ["?x", "!a"], ["?x", "!a", "?x"]):
            self.assertEqual(nodes_of(forbid(guide, labels)), expected)

    def test_all(self):
        self.assertEqual(nodes_of(forbid(small_guide(), LABELS)), [])
        guide = guide_of(
            ([("!a", 1)], ["!b", "?x"], [["!a", "final"]]), ([("?x", 0)], ["!a", "!b"], [["?x"]]),
        )
        self.assertEqual(nodes_of(forbid(guide, LABELS)), [([], LABELS, [["final"]])])
        guide = guide_of(([("!a", 0), ("!b", 0), ("?x", 0)], [], []))
        self.assertEqual(nodes_of(forbid(guide, LABELS)), [([], LABELS, [])])

    def test_labels_that_are_forbidden_already(self):
        guide = guide_of(([("!a", 0)], ["!b", "?x"], [["!a", "final"]]))
        self.assertEqual(form(forbid(guide, ["!b"])), form(guide))
        self.assertEqual(form(forbid(guide, ["?x", "!b"])), form(guide))
        self.assertEqual(nodes_of(forbid(guide, ["!a", "!b"])), [([], LABELS, [["final"]])])

    def test_clauses_that_lose_their_only_item(self):
        guide = guide_of(
            ([("!a", 1), ("!b", 2)], ["?x"], [["!a", "!b"]]),
            ([("?x", 2)], ["!a", "!b"], [["?x"]]),
            ([("?x", 2)], ["!a", "!b"], [["?x", "final"]]),
        )
        self.assertEqual(nodes_of(forbid(guide, ["?x"])), [
            ([("!b", 1)], ["!a", "?x"], [["!b"]]), ([], LABELS, [["final"]]),
        ])

    def test_bad_nodes_that_make_others_bad(self):
        chain = [([("!a", k + 1), ("!b", 6)], ["?x"], [["!a"]]) for k in range(1, 5)]
        guide = guide_of(
            ([("!a", 1), ("!b", 6)], ["?x"], [["!a", "!b"]]), *chain,
            ([("!b", 6), ("?x", 0)], ["!a"], [["?x"]]), ([], LABELS, [["final"]]),
        )
        self.assertEqual(len(forbid(guide, []).nodes), 7)
        self.assertEqual(nodes_of(forbid(guide, ["?x"])), [
            ([("!b", 1)], ["!a", "?x"], [["!b"]]), ([], LABELS, [["final"]]),
        ])

    def test_node_0_bad(self):
        guide = forbid(small_guide(), ["!a"])
        self.assertEqual(form(guide), (("a", "b"), ("x",), ()))
        # Bad only because all behind it is bad.
        guide = guide_of(
            ([("!a", 1), ("!b", 2)], ["?x"], [["!a", "!b"]]),
            ([("!a", 2)], ["!b", "?x"], [["!a"]]), ([("?x", 2)], ["!a", "!b"], [["?x"]]),
        )
        self.assertEqual(nodes_of(forbid(guide, ["?x"])), [])

    def test_moves_back(self):
        """Nodes are bad only if something makes them so: an endless exchange is no harm."""
        guide = guide_of(
            ([("!a", 1)], ["!b", "?x"], [["!a"]]), ([("!b", 0), ("?x", 0)], ["!a"], [["!b", "?x"]]),
        )
        self.assertEqual(nodes_of(forbid(guide, ["?x"])), [
            ([("!a", 1)], ["!b", "?x"], [["!a"]]), ([("!b", 0)], ["!a", "?x"], [["!b"]]),
        ])

    def test_nodes_to_which_no_moves_lead_any_more(self):
        guide = guide_of(
            ([("!a", 1), ("!b", 2), ("?x", 3)], [], []), ([("?x", 3)], ["!a", "!b"], []),
            ([], LABELS, []), ([("!a", 4)], ["!b", "?x"], []), ([("!b", 2)], ["!a", "?x"], [["final"]]),
        )
        # Node 3 is now behind "?x" and node 4 behind "?x", "!a".
        self.assertEqual(nodes_of(forbid(guide, ["!b"])), [
            ([("!a", 1), ("?x", 2)], ["!b"], []), ([("?x", 2)], ["!a", "!b"], []),
            ([("!a", 3)], ["!b", "?x"], []), ([], LABELS, [["final"]]),
        ])

    def test_numbers(self):
        """As in point 15, whatever the numbers were."""
        guide = guide_of(
            ([("!a", 4), ("!b", 3), ("?x", 1)], [], []), ([("!a", 2)], ["!b", "?x"], []), ([], LABELS, []),
            ([("!b", 3)], ["!a", "?x"], []), ([("!b", 0), ("?x", 2)], ["!a"], []), ([("!a", 5)], ["!b", "?x"], []),
        )
        self.assertEqual(nodes_of(forbid(guide, [])), [
            ([("!a", 1), ("!b", 2), ("?x", 3)], [], []), ([("!b", 0), ("?x", 4)], ["!a"], []),
            ([("!b", 2)], ["!a", "?x"], []), ([("!a", 4)], ["!b", "?x"], []), ([], LABELS, []),
        ])

    def test_a_bad_node_to_which_no_moves_lead(self):
        guide = guide_of(([("!a", 0)], ["!b", "?x"], [["!a"]]), ([("?x", 0)], ["!a", "!b"], [["?x"]]))
        self.assertEqual(nodes_of(forbid(guide, ["?x"])), [([("!a", 0)], ["!b", "?x"], [["!a"]])])

    def test_clauses_that_become_equal(self):
        guide = guide_of((
            [("!a", 0), ("!b", 0), ("?x", 0)], [], [["!a", "!b"], ["!b", "?x"], ["!b", "final"]],
        ))
        self.assertEqual(nodes_of(forbid(guide, ["!a", "?x"]))[0][2], [["!b"]])
        self.assertEqual(nodes_of(forbid(guide, ["!a"]))[0][2], [["!b"]])
        self.assertEqual(nodes_of(forbid(guide, ["!b"]))[0][2], [["!a"], ["?x"], ["final"]])

    def test_no_nodes(self):
        for labels in subsets(LABELS):
            self.assertEqual(form(forbid(NO_NODES, labels)), form(NO_NODES))

    def test_random_guides(self):
        seen = set()
        for guide in some_guides(31, 150, most=6):
            for labels in subsets(LABELS):
                told = forbid(guide, labels)
                self.assertEqual(form(told), reference_guides.forbid(form(guide), labels))
                seen.add((len(guide.nodes), len(told.nodes)))
        self.assertTrue({(6, 0), (6, 1), (6, 3), (6, 6)} <= seen)

    def test_followers(self):
        seen = set()
        for number, guide in enumerate(some_guides(32, 60)):
            for partner in some_partners(number, 12, LABELS):
                for labels in subsets(LABELS):
                    expected = follows(guide, partner) and not reachable_labels(partner) & set(labels)
                    self.assertIs(follows(forbid(guide, labels), partner), expected)
                    seen.add((follows(guide, partner), expected))
        self.assertEqual(seen, {(True, True), (True, False), (False, False)})


class JoinTest(unittest.TestCase):
    def test_with_itself(self):
        self.assertEqual(form(join(small_guide(), small_guide())), form(small_guide()))
        example = build(ask_reply(), example_links())
        self.assertEqual(form(join(example, example)), form(example))
        self.assertIsInstance(join(example, example), Guide)

    def test_two_guides(self):
        other = guide_of(
            ([("!a", 0), ("!b", 0), ("?x", 1)], [], [["!a", "?x"]]), ([], LABELS, [["final"]]),
        )
        expected = [
            ([("!a", 1)], ["!b", "?x"], [["!a"]]),
            ([("!b", 0), ("?x", 2)], ["!a"], [["?x"]]),
            ([], LABELS, [["final"]]),
        ]
        told = join(small_guide(), other)
        self.assertEqual((told.inputs, told.outputs), (["a", "b"], ["x"]))
        self.assertEqual(nodes_of(told), expected)
        self.assertEqual(nodes_of(join(other, small_guide())), expected)

    def test_labels_of_one_alone_are_forbidden_and_leave_the_clauses(self):
        one = guide_of(([("!a", 0), ("!b", 0)], ["?x"], [["!a", "!b"]]))
        two = guide_of(([("!b", 0), ("?x", 0)], ["!a"], [["?x", "final"]]))
        self.assertEqual(nodes_of(join(one, two)), [([("!b", 0)], ["!a", "?x"], [["!b"], ["final"]])])

    def test_clauses_of_both(self):
        moves = [("!a", 0), ("!b", 0), ("?x", 0)]
        one = guide_of((moves, [], [["!a", "!b"], ["?x"]]))
        two = guide_of((moves, [], [["!a"], ["!b", "?x", "final"]]))
        self.assertEqual(nodes_of(join(one, two)), [(moves, [], [["!a"], ["?x"]])])

    def test_pairs_of_nodes(self):
        """A ring of two and a ring of three nodes: each pair is behind some row."""
        told = join(ring(2), ring(3))
        self.assertEqual(nodes_of(told), [([("!a", (k + 1) % 6)], [], []) for k in range(6)])

    def test_bad_pairs(self):
        # Behind "!a" the one wants "?x", which the other forbids; behind "!b" both have "?x".
        one = guide_of(
            ([("!a", 1), ("!b", 2)], ["?x"], [["!a", "!b"]]),
            ([("?x", 2)], ["!a", "!b"], [["?x"]]), ([("?x", 2)], ["!a", "!b"], [["?x", "final"]]),
        )
        two = guide_of(
            ([("!a", 1), ("!b", 2)], ["?x"], []), ([], LABELS, []), ([("?x", 1)], ["!a", "!b"], []),
        )
        expected = [
            ([("!b", 1)], ["!a", "?x"], [["!b"]]),
            ([("?x", 2)], ["!a", "!b"], [["?x", "final"]]),
            ([], LABELS, [["final"]]),
        ]
        self.assertEqual(nodes_of(join(one, two)), expected)
        self.assertEqual(nodes_of(join(two, one)), expected)

    def test_bad_pairs_that_make_others_bad(self):
        one = guide_of(
            ([("!a", 1)], ["!b", "?x"], [["!a", "final"]]), ([("!a", 2)], ["!b", "?x"], [["!a"]]),
            ([("!b", 0), ("?x", 0)], ["!a"], [["!b"]]),
        )
        two = guide_of(([("!a", 0), ("?x", 0)], ["!b"], []))
        self.assertEqual(nodes_of(join(one, two)), [([], LABELS, [["final"]])])

    def test_the_first_pair_bad(self):
        one = guide_of(([("!a", 0)], ["!b", "?x"], [["!a"]]))
        two = guide_of(([("!b", 0)], ["!a", "?x"], []))
        self.assertEqual(form(join(one, two)), (("a", "b"), ("x",), ()))
        self.assertEqual(nodes_of(join(two, one)), [])
        self.assertEqual(nodes_of(join(two, two)), [([("!b", 0)], ["!a", "?x"], [])])

    def test_numbers(self):
        """As in point 15: neither by the numbers of the one guide nor by those of the other."""
        one = guide_of(
            ([("!a", 2), ("!b", 1)], ["?x"], []), ([("!a", 1)], ["!b", "?x"], []), ([("!a", 0)], ["!b", "?x"], []),
        )
        two = guide_of(([("!a", 2), ("!b", 1)], ["?x"], []), ([], LABELS, []), ([("!a", 1)], ["!b", "?x"], []))
        # The pairs are (0, 0), (2, 2), (1, 1), (0, 1).
        self.assertEqual(nodes_of(join(one, two)), [
            ([("!a", 1), ("!b", 2)], ["?x"], []), ([("!a", 3)], ["!b", "?x"], []), ([], LABELS, []), ([], LABELS, []),
        ])

    def test_one_without_nodes(self):
        self.assertEqual(form(join(NO_NODES, small_guide())), form(NO_NODES))
        self.assertEqual(form(join(small_guide(), NO_NODES)), form(NO_NODES))
        self.assertEqual(form(join(NO_NODES, NO_NODES)), form(NO_NODES))

    def test_interfaces_differ(self):
        free = guide_of(([("!a", 0), ("!b", 0), ("?x", 0)], [], []))
        for inputs, outputs in ((["a"], ["x"]), (["a", "c"], ["x"]), (["a", "b"], []), (["x"], ["a", "b"])):
            for other in (Guide(inputs, outputs, []), permitting_all(inputs, outputs)):
                for guide in (free, NO_NODES):
                    self.assertEqual(reason_of(join, guide, other), "interfaces differ")
                    self.assertEqual(reason_of(join, other, guide), "interfaces differ")

    def test_60_pairs(self):
        told = join(ring(3), ring(20))
        self.assertEqual(nodes_of(told), [([("!a", (k + 1) % 60)], [], []) for k in range(60)])
        self.assertEqual(len(join(ring(3, 1), ring(19)).nodes), 58)
        self.assertEqual(len(join(ring(60), ring(1)).nodes), 60)

    def test_61_pairs(self):
        self.assertEqual(len(reference_guides.pairs_of(form(ring(3, 1)), form(ring(20)))), 61)
        self.assertEqual(reason_of(join, ring(3, 1), ring(20)), "too many nodes")
        self.assertEqual(reason_of(join, ring(20), ring(3, 1)), "too many nodes")
        self.assertEqual(reason_of(join, ring(59), ring(60)), "too many nodes")

    def test_bad_pairs_count(self):
        one = guide_of(([("!a", 0)], ["!b", "?x"], []))
        swapping = guide_of(([("!a", 1)], ["!b", "?x"], []), ([("!a", 0)], ["!b", "?x"], []))
        told = join(one, self.ending_badly())
        self.assertEqual(nodes_of(told), [
            ([("!a", k + 1)] if k < 58 else [], ["!b", "?x"] if k < 58 else LABELS, []) for k in range(59)
        ])
        self.assertEqual(len(reference_guides.pairs_of(form(swapping), form(self.ending_badly()))), 61)
        self.assertEqual(reason_of(join, swapping, self.ending_badly()), "too many nodes")
        self.assertEqual(reason_of(join, self.ending_badly(), swapping), "too many nodes")

    def ending_badly(self):
        """A chain of 60 nodes, the last of which wants "?x" and has a move "!a" to itself."""
        chain = [([("!a", k + 1)], ["!b", "?x"], []) for k in range(59)]
        return guide_of(*chain, ([("!a", 59), ("?x", 0)], ["!b"], [["?x"]]))

    def test_pairs_behind_bad_ones_count(self):
        wanting = [([("!a", min(k + 1, 59)), ("?x", 0)], ["!b"], [["?x"]]) for k in range(60)]
        one = guide_of(([("!a", 0)], ["!b", "?x"], []))
        self.assertEqual(nodes_of(join(one, guide_of(*wanting))), [])
        swapping = guide_of(([("!a", 1)], ["!b", "?x"], []), ([("!a", 0)], ["!b", "?x"], []))
        self.assertEqual(reason_of(join, swapping, guide_of(*wanting)), "too many nodes")
        self.assertEqual(nodes_of(join(guide_of(*wanting), NO_NODES)), [])

    def test_random_guides(self):
        seen = set()
        guides = some_guides(33, 40, most=6)
        for one, two in itertools.product(guides, guides[:20]):
            told = join(one, two)
            self.assertEqual(form(told), reference_guides.join(form(one), form(two)))
            self.assertEqual(form(told), form(join(two, one)))
            seen.add(len(told.nodes))
        self.assertTrue({0, 1, 2, 3, 8} <= seen)

    def test_followers(self):
        seen = set()
        guides = some_guides(34, 24)
        for number, (one, two) in enumerate(itertools.product(guides, guides[:12])):
            told = join(one, two)
            for partner in some_partners(number, 6, LABELS, 2):
                expected = follows(one, partner), follows(two, partner)
                self.assertIs(follows(told, partner), expected == (True, True))
                self.assertEqual(reference.follows(form(told), partner), expected == (True, True))
                seen.add(expected)
        self.assertEqual(len(seen), 4)

    def test_joined_in_any_order(self):
        guides = some_guides(35, 9, most=3)
        for one, two, three in itertools.product(guides, repeat=3):
            left, right = join(join(one, two), three), join(one, join(two, three))
            self.assertEqual(form(least(left)), form(least(right)))


def permitting_all(inputs, outputs):
    labels = sorted(["!" + m for m in inputs] + ["?" + m for m in outputs])
    return guide_of(([(label, 0) for label in labels], [], []), inputs=inputs, outputs=outputs)


class ArgumentsTest(unittest.TestCase):
    """Point 2: arguments stay as they are, and what is returned belongs to the caller."""

    def check(self, function, *arguments):
        before = picture(arguments)
        told = function(*arguments)
        self.assertEqual(picture(arguments), before)
        answer = picture(told)
        spoil(told)
        self.assertEqual(picture(arguments), before)
        told = function(*arguments)
        self.assertEqual(picture(told), answer)
        spoil(arguments)
        self.assertEqual(picture(told), answer)

    def test_arguments_and_answers(self):
        for labels in ([], ["!b"], ["?x"], ["!a"]):
            self.check(forbid, small_guide(), labels)
        self.check(forbid, Guide(["a"], [], []), ["!a"])
        self.check(join, small_guide(), small_guide())
        self.check(join, ring(2), ring(3))
        self.check(join, Guide(["a"], [], []), ring(3))
        self.check(join, ring(3), Guide(["a"], [], []))
        same = small_guide()
        self.check(join, same, same)


if __name__ == "__main__":
    unittest.main()
