"""Tests of guides compared with each other: inclusions and parting partners."""

import itertools
import unittest

import reference
import reference_guides
from examples import guide_of, picture, reason_of, ring, small_guide, some_guides, some_partners, spoil
from allwhotalk.algebra import forbid, inclusion, is_inclusion, is_within, join, parting
from allwhotalk.guides import Guide, form, least
from allwhotalk.machines import Partner
from allwhotalk.partners import follows, follows_from, representative

LABELS = ["!a", "!b", "?x"]
ALL = [("!a", 0), ("!b", 0), ("?x", 0)]
NO_NODES = Guide(["a", "b"], ["x"], [])
FREE = (ALL, [], [])


def one_node(allowed, clauses):
    """A guide with one node, at which these labels are moves."""
    return guide_of(([(label, 0) for label in allowed], [l for l in LABELS if l not in allowed], clauses))


def wider_guide():
    """What the small guide is within: "?x" leads to a node without clauses, and node 1 has one clause fewer."""
    return guide_of(
        ([("!a", 1), ("!b", 0)], ["?x"], [["!a", "!b"]]),
        ([("!b", 2), ("?x", 3)], ["!a"], [["!b", "?x", "final"]]),
        ([("!a", 1), ("!b", 2)], ["?x"], [["!a"]]),
        ([("!a", 3)], ["!b", "?x"], []),
    )


# Pairs of guides, the first of which is within the second.
WITHIN = [
    (small_guide(), small_guide(), [(0, 0), (1, 1), (2, 2)]),
    (small_guide(), wider_guide(), [(0, 0), (0, 2), (1, 1), (2, 3)]),
    (small_guide(), guide_of(FREE), [(0, 0), (1, 0), (2, 0)]),
    (guide_of(FREE), guide_of(FREE, FREE), [(0, 0)]),
    # A move less.
    (one_node(["!a"], []), one_node(["!a", "!b"], []), [(0, 0)]),
    # A clause more, one that is a part of another, and one that is a part of two.
    (one_node(["!a", "!b"], [["!a"]]), one_node(["!a", "!b"], []), [(0, 0)]),
    (one_node(["!a", "!b"], [["!a"]]), one_node(["!a", "!b"], [["!a", "!b"]]), [(0, 0)]),
    (one_node(LABELS, [["!b"]]), one_node(LABELS, [["!a", "!b"], ["!b", "final"]]), [(0, 0)]),
    (one_node(["!a"], [["final"]]), one_node(["!a"], [["!a", "final"]]), [(0, 0)]),
    (ring(2), ring(3), [(0, 0), (0, 1), (0, 2), (1, 0), (1, 1), (1, 2)]),
    (ring(3), ring(1), [(0, 0), (1, 0), (2, 0)]),
    (ring(1), ring(2, 2), [(0, 0), (0, 1), (0, 2), (0, 3)]),
]

# Pairs of guides, the first of which is not within the second.
NOT_WITHIN = [
    # By a move.
    (wider_guide(), small_guide()),
    (one_node(["!a", "!b"], []), one_node(["!a"], [])),
    (one_node(["!a"], []), one_node(["!b"], [])),
    (guide_of(FREE), one_node([], [])),
    # By a clause.
    (one_node(["!a", "!b"], []), one_node(["!a", "!b"], [["!a"]])),
    (one_node(["!a", "!b"], [["!a", "!b"]]), one_node(["!a", "!b"], [["!a"]])),
    (one_node(["!a", "!b"], [["!a"]]), one_node(["!a", "!b"], [["!b"]])),
    (one_node(["!a"], [["!a", "final"]]), one_node(["!a"], [["final"]])),
    (one_node(["!a"], [["!a", "final"]]), one_node(["!a"], [["!a"]])),
    (one_node([], []), one_node([], [["final"]])),
    (one_node(LABELS, [["!a", "!b"], ["?x", "final"]]), one_node(LABELS, [["!a", "?x"]])),
    (guide_of(FREE), one_node(LABELS, [LABELS + ["final"]])),
    # By a move behind some labels only.
    (guide_of(([("!a", 1)], ["!b", "?x"], []), ([("!a", 1), ("!b", 1)], ["?x"], [])),
     guide_of(([("!a", 1)], ["!b", "?x"], []), ([("!a", 1)], ["!b", "?x"], []))),
    # By a clause behind some labels only, also where the way leads more than once through the node.
    (ring(1), guide_of(([("!a", 1)], [], []), ([("!a", 0)], [], [["!a"]]), inputs=["a"], outputs=[])),
    (ring(1), guide_of(([("!a", 1)], [], [["!a", "final"]]), ([("!a", 2)], [], [["!a"]]), ([("!a", 0)], [], []),
                       inputs=["a"], outputs=[])),
    (guide_of(([("!a", 0), ("!b", 0)], ["?x"], [["!a", "!b"]])),
     guide_of(([("!a", 0), ("!b", 1)], ["?x"], [["!a", "!b"]]), ([("!a", 0), ("!b", 2)], ["?x"], []),
              ([("!a", 2), ("!b", 2)], ["?x"], [["!b"]]))),
]


class WithinTest(unittest.TestCase):
    def test_guides_that_are_within(self):
        for number, (one, two, pairs) in enumerate(WITHIN):
            with self.subTest(number=number):
                self.assertIs(is_within(one, two), True)
                self.assertEqual(inclusion(one, two), pairs)
                self.assertIs(is_inclusion(one, two, pairs), True)
                self.assertIsNone(parting(one, two))

    def test_guides_that_are_not(self):
        for number, (one, two) in enumerate(NOT_WITHIN):
            with self.subTest(number=number):
                self.assertIs(is_within(one, two), False)
                self.assertIsNone(inclusion(one, two))
                self.assert_parts(one, two)

    def assert_parts(self, one, two):
        partner = parting(one, two)
        self.assertIsInstance(partner, Partner)
        self.assertTrue(partner.states <= 61)
        self.assertIs(follows(one, partner), True)
        self.assertIs(follows(two, partner), False)
        self.assertTrue(reference.follows(form(one), partner))
        self.assertFalse(reference.follows(form(two), partner))

    def test_without_nodes(self):
        self.assertIs(is_within(NO_NODES, NO_NODES), True)
        self.assertIs(is_within(NO_NODES, small_guide()), True)
        self.assertIs(is_within(small_guide(), NO_NODES), False)
        for one, two in ((NO_NODES, NO_NODES), (NO_NODES, small_guide()), (small_guide(), NO_NODES)):
            self.assertIsNone(inclusion(one, two))
            for pairs in ([], [(0, 0)], [(0, 0), (1, 1), (2, 2)]):
                self.assertIs(is_inclusion(one, two, pairs), False)
        self.assertIsNone(parting(NO_NODES, NO_NODES))
        self.assertIsNone(parting(NO_NODES, small_guide()))
        self.assertIs(follows(small_guide(), parting(small_guide(), NO_NODES)), True)
        self.assertIs(follows(guide_of(FREE), parting(guide_of(FREE), NO_NODES)), True)

    def test_many_nodes(self):
        self.assertEqual(len(inclusion(ring(59), ring(60))), 59 * 60)
        self.assertIs(is_inclusion(ring(59), ring(60), inclusion(ring(59), ring(60))), True)
        nodes = [([("!a", (k + 1) % 60)], [], [["!a", "final"]]) for k in range(60)]
        one = guide_of(*nodes, inputs=["a"], outputs=[])
        nodes[59] = ([("!a", 0)], [], [["!a"]])
        two = guide_of(*nodes, inputs=["a"], outputs=[])
        self.assertIs(is_within(two, one), True)
        self.assertIs(is_within(one, two), False)
        self.assert_parts(one, two)

    def test_interfaces_differ(self):
        for inputs, outputs in ((["a"], ["x"]), (["a", "c"], ["x"]), (["a", "b"], []), (["x"], ["a", "b"])):
            for one in (Guide(inputs, outputs, []), self.free(inputs, outputs)):
                for two in (guide_of(FREE), NO_NODES):
                    for function in (is_within, inclusion, parting):
                        self.assertEqual(reason_of(function, one, two), "interfaces differ")
                        self.assertEqual(reason_of(function, two, one), "interfaces differ")
                    for pairs in ([], [(0, 0)], [(1, 1)]):
                        self.assertEqual(reason_of(is_inclusion, one, two, pairs), "interfaces differ")
                        self.assertEqual(reason_of(is_inclusion, two, one, pairs), "interfaces differ")

    def free(self, inputs, outputs):
        labels = sorted(["!" + m for m in inputs] + ["?" + m for m in outputs])
        return guide_of(([(label, 0) for label in labels], [], []), inputs=inputs, outputs=outputs)

    def test_nodes_to_which_no_moves_lead(self):
        """They tell nothing of the partners that follow."""
        one = guide_of(([("!a", 0)], ["!b", "?x"], []), (ALL, [], []))
        two = guide_of(([("!a", 0)], ["!b", "?x"], []), ([], LABELS, [["final"]]))
        self.assertEqual(inclusion(one, two), [(0, 0)])
        self.assertIs(is_inclusion(one, two, [(0, 0), (1, 1)]), False)
        self.assertIs(is_inclusion(one, two, [(0, 0), (1, 0)]), False)


class IsInclusionTest(unittest.TestCase):
    def test_in_any_order_and_pairs_twice(self):
        for one, two, pairs in WITHIN:
            self.assertIs(is_inclusion(one, two, pairs[::-1]), True)
            self.assertIs(is_inclusion(one, two, pairs + pairs), True)
            for pair in pairs:
                self.assertIs(is_inclusion(one, two, pairs + [pair]), True)
                self.assertIs(is_inclusion(one, two, [pair] + pairs), True)

    def test_a_pair_left_out(self):
        for one, two, pairs in WITHIN:
            for at in range(len(pairs)):
                self.assertIs(is_inclusion(one, two, pairs[:at] + pairs[at + 1:]), False)

    def test_a_pair_put_in(self):
        pairs = [(0, 0), (1, 1), (2, 2)]
        for pair in itertools.product(range(3), repeat=2):
            expected = pair in pairs
            self.assertIs(is_inclusion(small_guide(), small_guide(), pairs + [pair]), expected)
        # Here a pair may be put in to which no moves lead, if the pairs behind it are there.
        one = guide_of(([("!a", 0)], ["!b", "?x"], []), ([("!a", 0)], ["!b", "?x"], [["!a"]]))
        self.assertEqual(inclusion(one, one), [(0, 0)])
        self.assertIs(is_inclusion(one, one, [(0, 0), (1, 1)]), True)
        self.assertIs(is_inclusion(one, one, [(0, 0), (1, 0)]), True)
        self.assertIs(is_inclusion(one, one, [(0, 0), (0, 1)]), False)
        self.assertIs(is_inclusion(one, one, [(1, 1)]), False)

    def test_nodes_that_there_are_not(self):
        for one, two, pairs in WITHIN:
            many, others = len(one.nodes), len(two.nodes)
            for pair in [(many, 0), (0, others), (many, others), (60, 0), (0, 60), (1000, 1000), (-1, 0), (0, -1)]:
                self.assertIs(is_inclusion(one, two, pairs + [pair]), False)
                self.assertIs(is_inclusion(one, two, [pair] + pairs), False)

    def test_the_empty_list_and_lists_without_the_first_pair(self):
        for one, two, pairs in WITHIN:
            self.assertIs(is_inclusion(one, two, []), False)
            self.assertIs(is_inclusion(one, two, pairs[1:]), False)

    def test_guides_that_are_not_within(self):
        for one, two in NOT_WITHIN:
            every = list(itertools.product(range(len(one.nodes)), range(len(two.nodes))))
            self.assertIs(is_inclusion(one, two, every), False)
            self.assertIs(is_inclusion(one, two, [(0, 0)]), False)

    def test_all_lists_of_small_guides(self):
        seen = []
        guides = some_guides(41, 30, most=2)
        for one, two in itertools.product(guides, repeat=2):
            every = list(itertools.product(range(len(one.nodes)), range(len(two.nodes))))
            for size in range(len(every) + 1):
                for pairs in itertools.combinations(every, size):
                    expected = reference_guides.is_right_inclusion(form(one), form(two), pairs)
                    self.assertIs(is_inclusion(one, two, list(pairs)), expected)
                    seen.append(expected)
        self.assertGreater(seen.count(True), 50)


class ManyGuidesTest(unittest.TestCase):
    def guides(self):
        return some_guides(42, 30, most=3) + [small_guide(), wider_guide(), guide_of(FREE), NO_NODES]

    def test_within_exactly_if(self):
        """Point 24 and 25: by an inclusion, by the representative, by a parting partner."""
        seen = []
        for one, two in itertools.product(self.guides(), repeat=2):
            expected = reference_guides.is_within(form(one), form(two))
            self.assertIs(is_within(one, two), expected)
            pairs = inclusion(one, two)
            self.assertIs(pairs is not None, expected and len(one.nodes) > 0)
            if pairs is not None:
                self.assertEqual(pairs, sorted(set(pairs)))
                self.assertIs(is_inclusion(one, two, pairs), True)
            if one.nodes:
                partner, starts = representative(one)
                self.assertIs(all(follows_from(two, partner, start) for start in starts), expected)
            partner = parting(one, two)
            self.assertIs(partner is None, expected)
            if partner is not None:
                self.assertTrue(follows(one, partner) and not follows(two, partner))
                self.assertTrue(reference.follows(form(one), partner))
                self.assertFalse(reference.follows(form(two), partner))
            seen.append(expected)
        self.assertTrue(100 < seen.count(True) < len(seen) - 100)

    def test_every_partner(self):
        guides = some_guides(43, 14, most=3)
        partners = some_partners(44, 60, LABELS, 3)
        followers = [[follows(guide, partner) for partner in partners] for guide in guides]
        for (one, left), (two, right) in itertools.product(zip(guides, followers), repeat=2):
            if is_within(one, two):
                self.assertTrue(all(there or not here for here, there in zip(left, right)))

    def test_the_least_guides(self):
        """Point 29: they are equal exactly if the same partners follow both."""
        seen = set()
        for guide in some_guides(45, 25, most=3):
            for labels in ([], ["!a"], ["!b"], ["?x"], ["!a", "?x"]):
                other = forbid(guide, labels)
                seen.add(self.check_least(guide, other))
                seen.add(self.check_least(join(guide, other), other))
                self.assertTrue(is_within(other, guide) and is_within(join(guide, other), other))
        for one, two in itertools.product(self.guides(), repeat=2):
            seen.add(self.check_least(one, two))
        self.assertEqual(seen, {True, False})

    def check_least(self, one, two):
        both = is_within(one, two) and is_within(two, one)
        self.assertIs(form(least(one)) == form(least(two)), both)
        return both

    def test_joined_and_forbidden_ones_are_within(self):
        guides = some_guides(46, 20, most=3)
        for one, two in itertools.product(guides, repeat=2):
            both = join(one, two)
            self.assertTrue(is_within(both, one) and is_within(both, two))
            self.assertIs(is_within(one, both), is_within(one, two))


class ArgumentsTest(unittest.TestCase):
    """Point 2: arguments stay as they are, and what is returned belongs to the caller."""

    def test_arguments_and_answers(self):
        for one, two in ((small_guide(), wider_guide()), (wider_guide(), small_guide()), (ring(2), ring(3)),
                         (small_guide(), NO_NODES), (NO_NODES, small_guide()), NOT_WITHIN[4], NOT_WITHIN[-1]):
            pairs = [(0, 0), (0, 2), (1, 1), (2, 3)]
            before = picture([one, two, pairs])
            answers = []
            for _ in range(2):
                told = [is_within(one, two), inclusion(one, two), is_inclusion(one, two, pairs), parting(one, two)]
                self.assertEqual(picture([one, two, pairs]), before)
                answers.append(picture(told))
                spoil(told)
                self.assertEqual(picture([one, two, pairs]), before)
            self.assertEqual(answers[0], answers[1])


if __name__ == "__main__":
    unittest.main()
