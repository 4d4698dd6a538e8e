"""Tests of followings and violations: which partners follow a guide, and what is told of it."""

import itertools
import unittest

import reference_guides
from examples import (
    ask_reply, example_links, guide_of, impatient, patient, picture, small_guide, some_guides, some_partners, spoil,
    turned,
)
from allwhotalk.guides import Guide, build, form
from allwhotalk.machines import Partner
from allwhotalk.partners import follows, follows_from, following, is_following, is_violation, violation

LABELS = ["!a", "!b", "?x"]
NO_NODES = Guide(["a", "b"], ["x"], [])


def straight():
    """A partner that follows the small guide."""
    return Partner(3, [(0, "!a", 1), (1, "?x", 2)], [2])


def back_and_forth():
    """Follows it, too: its transitions lead back, and no transition leads to its state 2."""
    return Partner(3, [(0, "!a", 1), (1, "!b", 0), (2, "!b", 2)], [1])


def two_ways():
    """Follows it, too: with one label it goes to different states."""
    return Partner(5, [(0, "!a", 1), (0, "!a", 2), (1, "?x", 3), (1, "?x", 4), (2, "!b", 0), (2, "?x", 3)], [3, 4])


FOLLOWERS = [
    (straight, [(0, 0), (1, 1), (2, 2)]),
    (back_and_forth, [(0, 0), (1, 1)]),
    (two_ways, [(0, 0), (1, 1), (2, 1), (3, 2), (4, 2)]),
]

# Partners that do not follow the small guide, each with its shortest violations.
OTHERS = [
    # A label that is forbidden.
    (Partner(1, [(0, "?x", 0)], []), [([], 0)]),
    (Partner(2, [(0, "!a", 1), (0, "!b", 1), (1, "?x", 1)], []), [([], 0)]),
    (Partner(2, [(0, "!a", 1), (1, "!a", 0), (1, "?x", 0)], [0, 1]), [(["!a"], 1)]),
    (Partner(3, [(0, "!a", 1), (1, "?x", 2), (2, "?x", 2)], [2]), [(["!a", "?x"], 2)]),
    # A clause that is not met.
    (Partner(1, [], [0]), [([], 0)]),
    (Partner(2, [(0, "!a", 1)], [1]), [(["!a"], 1)]),
    (Partner(2, [(0, "!a", 1)], [0]), [(["!a"], 1)]),
    # "final" in a clause, and the state is not final.
    (Partner(2, [(0, "!a", 1), (1, "!b", 0)], [0]), [(["!a"], 1)]),
    (Partner(3, [(0, "!a", 1), (1, "?x", 2)], [0, 1]), [(["!a", "?x"], 2)]),
    # A second way with the same label.
    (Partner(3, [(0, "!a", 1), (0, "!a", 2), (1, "?x", 0)], [0, 1, 2]), [(["!a"], 2)]),
    (Partner(4, [(0, "!a", 1), (1, "?x", 2), (1, "?x", 3)], [3]), [(["!a", "?x"], 2)]),
    (Partner(3, [(0, "!a", 1), (0, "!a", 2), (1, "!b", 0), (2, "!a", 0)], [1, 2]), [(["!a"], 2)]),
    # A state that node 0 is met with only behind "!b", and that meets no clause there.
    (Partner(3, [(0, "!a", 1), (1, "!b", 2), (1, "?x", 2)], [1, 2]), [(["!a", "!b"], 2)]),
]


class FollowsTest(unittest.TestCase):
    def test_partners_that_follow(self):
        for partner, pairs in FOLLOWERS:
            with self.subTest(partner=partner.__name__):
                self.assertIs(follows(small_guide(), partner()), True)
                self.assertEqual(following(small_guide(), partner()), pairs)
                self.assertIsNone(violation(small_guide(), partner()))

    def test_partners_that_do_not(self):
        for partner, _ in OTHERS:
            with self.subTest(transitions=partner.transitions, final=partner.final):
                self.assertIs(follows(small_guide(), partner), False)
                self.assertIsNone(following(small_guide(), partner))

    def test_final_in_a_clause(self):
        guide = guide_of(([("!a", 0)], ["!b", "?x"], [["!a", "final"]]))
        self.assertIs(follows(guide, Partner(1, [], [0])), True)
        self.assertIs(follows(guide, Partner(1, [], [])), False)
        self.assertIs(follows(guide, Partner(1, [(0, "!a", 0)], [])), True)
        self.assertIs(follows(guide, Partner(2, [(0, "!a", 1)], [0])), False)
        self.assertIs(follows(guide, Partner(2, [(0, "!a", 1)], [1])), True)

    def test_a_node_without_clauses(self):
        guide = guide_of(([("!a", 0)], ["!b", "?x"], []))
        self.assertIs(follows(guide, Partner(1, [], [])), True)
        self.assertIs(follows(guide, Partner(1, [(0, "!b", 0)], [])), False)
        self.assertEqual(following(guide, Partner(4, [(0, "!a", 2), (2, "!a", 0), (3, "!a", 1)], [])), [(0, 0), (2, 0)])

    def test_one_state_at_several_nodes(self):
        guide = guide_of(([("!a", 1)], ["!b", "?x"], []), ([("!a", 0), ("!b", 0)], ["?x"], []))
        self.assertEqual(following(guide, Partner(1, [(0, "!a", 0)], [])), [(0, 0), (0, 1)])
        self.assertIsNone(following(guide, Partner(2, [(0, "!a", 1), (1, "!a", 0), (1, "!b", 1)], [])))
        self.assertEqual(violation(guide, Partner(2, [(0, "!a", 1), (1, "!b", 1)], [])), (["!a", "!b"], 1))

    def test_a_guide_without_nodes(self):
        for partner in (straight(), Partner(1, [], []), Partner(1, [], [0])):
            self.assertIs(follows(NO_NODES, partner), False)
            self.assertIsNone(following(NO_NODES, partner))
            self.assertIs(is_following(NO_NODES, partner, [(0, 0)]), False)
            self.assertIs(is_following(NO_NODES, partner, []), False)

    def test_the_example(self):
        guide = build(ask_reply(), example_links())
        self.assertIs(follows(guide, patient()), True)
        self.assertIs(follows(guide, impatient()), False)
        pairs = [(0, 0), (0, 1), (0, 2), (0, 5), (1, 1), (1, 2), (1, 3), (1, 4)]
        self.assertEqual(following(guide, patient()), pairs)
        self.assertEqual(violation(guide, impatient()), (["!ask"], 1))

    def test_random_partners(self):
        seen = set()
        for number, guide in enumerate(some_guides(11, 60)):
            for partner in some_partners(number, 12, LABELS):
                pairs = following(guide, partner)
                self.assertIs(follows(guide, partner), pairs is not None)
                expected = smallest(guide, partner)
                self.assertEqual(pairs, expected)
                seen.add(None if pairs is None else len(pairs))
        self.assertTrue({None, 1, 2, 3} <= seen)


def smallest(guide, partner):
    """The pairs to which the partner and the guide lead, ascending; None if one is at fault."""
    told = form(guide)
    found, border = set(), {(0, 0)}
    while border:
        found |= border
        if any(reference_guides.is_fault(told, partner, p, n) for p, n in border):
            return None
        border = {(q, m) for p, n in border for _, q, m in reference_guides.steps(told, partner, p, n)} - found
    return sorted(found)


class IsFollowingTest(unittest.TestCase):
    def assert_told(self, partner, pairs, expected):
        self.assertIs(is_following(small_guide(), partner, pairs), expected)

    def test_the_list_itself(self):
        for partner, pairs in FOLLOWERS:
            self.assert_told(partner(), pairs, True)
            self.assert_told(partner(), pairs[::-1], True)

    def test_a_pair_twice(self):
        for partner, pairs in FOLLOWERS:
            for pair in pairs:
                self.assert_told(partner(), pairs + [pair], True)
                self.assert_told(partner(), [pair] + pairs, True)

    def test_a_pair_left_out(self):
        for partner, pairs in FOLLOWERS:
            for at in range(len(pairs)):
                self.assert_told(partner(), pairs[:at] + pairs[at + 1:], False)

    def test_a_pair_put_in(self):
        # State 2 cannot be reached, but with node 1 it is as a following wants it, if its target is there.
        more = Partner(4, [(0, "!a", 1), (1, "?x", 2), (3, "!a", 1)], [2, 3])
        pairs = [(0, 0), (1, 1), (2, 2)]
        self.assert_told(more, pairs + [(3, 0)], True)
        self.assert_told(more, [(3, 0)] + pairs, True)
        for pair in [(3, 1), (3, 2), (0, 1), (0, 2), (1, 0), (1, 2), (2, 0), (2, 1)]:
            self.assert_told(more, pairs + [pair], False)
            self.assert_told(more, [pair] + pairs, False)
        self.assert_told(Partner(2, [(0, "!a", 0), (1, "!a", 0)], []), [(0, 0), (1, 0)], False)

    def test_a_pair_changed(self):
        for partner, pairs in FOLLOWERS:
            for at, (p, n) in enumerate(pairs):
                for pair in [(p, n + 1), (p + 1, n), (n + 1, p), (p, (n + 1) % 3), (p, (n + 2) % 3)]:
                    changed = pairs[:at] + [pair] + pairs[at + 1:]
                    expected = reference_guides.is_right_following(form(small_guide()), partner(), changed)
                    self.assert_told(partner(), changed, expected)
                    self.assertIs(expected, pair == pairs[at])

    def test_numbers_that_are_no_states_or_nodes(self):
        for pair in [(3, 0), (3, 2), (0, 3), (2, 3), (300, 0), (0, 60), (1000, 1000), (-1, 2), (2, -1), (-3, -3)]:
            self.assert_told(straight(), [(0, 0), (1, 1), (2, 2), pair], False)
            self.assert_told(straight(), [pair], False)

    def test_without_the_first_pair(self):
        self.assert_told(straight(), [(1, 1), (2, 2)], False)
        self.assert_told(straight(), [(2, 2)], False)
        self.assert_told(straight(), [], False)

    def test_partners_that_do_not_follow(self):
        every = [(p, n) for p in range(4) for n in range(3)]
        for partner, _ in OTHERS:
            pairs = [pair for pair in every if pair[0] < partner.states]
            self.assert_told(partner, pairs, False)
            self.assert_told(partner, [(0, 0)], False)
            self.assert_told(partner, [], False)

    def test_all_lists_of_small_partners(self):
        seen = []
        for number, guide in enumerate(some_guides(12, 40, most=2)):
            for partner in some_partners(number, 4, LABELS, 2):
                every = list(itertools.product(range(partner.states), range(len(guide.nodes))))
                for size in range(len(every) + 1):
                    for pairs in itertools.combinations(every, size):
                        expected = reference_guides.is_right_following(form(guide), partner, list(pairs))
                        self.assertIs(is_following(guide, partner, list(pairs)), expected)
                        seen.append(expected)
                told = following(guide, partner)
                self.assertTrue(told is None or is_following(guide, partner, told))
        self.assertGreater(seen.count(True), 20)


class FollowsFromTest(unittest.TestCase):
    def test_each_state(self):
        self.assertEqual([follows_from(small_guide(), straight(), p) for p in range(3)], [True, False, False])
        partner = Partner(4, [(0, "!b", 0), (1, "!a", 3), (2, "!a", 0), (3, "!b", 1), (3, "?x", 2)], [1, 3])
        self.assertEqual([follows_from(small_guide(), partner, p) for p in range(4)], [False, False, False, False])
        partner = Partner(4, [(0, "!b", 0), (1, "!a", 3), (2, "!a", 1), (3, "!b", 1)], [1, 3])
        self.assertEqual([follows_from(small_guide(), partner, p) for p in range(4)], [False, True, False, False])

    def test_the_first_state(self):
        for partner, _ in FOLLOWERS:
            self.assertIs(follows_from(small_guide(), partner(), 0), True)
        for partner, _ in OTHERS:
            self.assertIs(follows_from(small_guide(), partner, 0), False)

    def test_no_nodes(self):
        self.assertEqual([follows_from(NO_NODES, straight(), p) for p in range(3)], [False] * 3)

    def test_as_if_the_state_were_the_initial_one(self):
        seen = []
        for number, guide in enumerate(some_guides(13, 60)):
            for partner in some_partners(number, 8, LABELS):
                for state in range(partner.states):
                    told = follows_from(guide, partner, state)
                    self.assertIs(told, follows(guide, turned(partner, state)))
                    seen.append((state, told))
        self.assertTrue({(1, True), (1, False), (2, True), (2, False)} <= set(seen))


class ViolationTest(unittest.TestCase):
    def test_partners_that_do_not_follow(self):
        for partner, expected in OTHERS:
            with self.subTest(transitions=partner.transitions, final=partner.final):
                told = violation(small_guide(), partner)
                self.assertIsInstance(told, tuple)
                self.assertIsInstance(told[0], list)
                self.assertIn(told, expected)
                self.assertIs(is_violation(small_guide(), partner, *told), True)

    def test_a_guide_without_nodes(self):
        for partner, _ in OTHERS:
            self.assertIsNone(violation(NO_NODES, partner))
            self.assertIs(is_violation(NO_NODES, partner, [], 0), False)
            self.assertIs(is_violation(NO_NODES, partner, ["!a"], 0), False)

    def test_labels_that_are_no_moves(self):
        partner = Partner(2, [(0, "?x", 1), (1, "?x", 1)], [])
        self.assertIs(is_violation(small_guide(), partner, [], 0), True)
        self.assertIs(is_violation(small_guide(), partner, ["?x"], 1), False)
        self.assertIs(is_violation(small_guide(), partner, ["?x", "?x"], 1), False)
        self.assertIs(is_violation(small_guide(), partner, ["!a"], 1), False)
        partner = Partner(2, [(0, "!a", 1), (1, "!a", 1)], [])
        self.assertIs(is_violation(small_guide(), partner, ["!a"], 1), True)
        self.assertIs(is_violation(small_guide(), partner, ["!a", "!a"], 1), False)

    def test_a_state_to_which_the_labels_do_not_lead(self):
        partner = Partner(3, [(0, "!a", 1)], [])
        self.assertIs(is_violation(small_guide(), partner, ["!a"], 1), True)
        self.assertIs(is_violation(small_guide(), partner, ["!a"], 0), False)
        self.assertIs(is_violation(small_guide(), partner, ["!a"], 2), False)
        self.assertIs(is_violation(small_guide(), partner, [], 1), False)
        self.assertIs(is_violation(small_guide(), partner, [], 2), False)
        for state in (3, 300, -1, -2):
            self.assertIs(is_violation(small_guide(), partner, ["!a"], state), False)

    def test_a_state_without_a_fault(self):
        partner = Partner(3, [(0, "!a", 1), (0, "!a", 2), (1, "?x", 0)], [])
        self.assertIs(is_violation(small_guide(), partner, ["!a"], 2), True)
        self.assertIs(is_violation(small_guide(), partner, ["!a"], 1), False)
        self.assertIs(is_violation(small_guide(), partner, [], 0), False)
        self.assertIs(is_violation(small_guide(), partner, ["!a", "?x"], 0), True)

    def test_longer_ones_than_needed(self):
        partner = Partner(2, [(0, "!a", 1), (1, "!b", 0)], [])
        self.assertEqual(violation(small_guide(), partner), (["!a"], 1))
        self.assertIs(is_violation(small_guide(), partner, ["!a", "!b"] * 100 + ["!a"], 1), True)
        self.assertIs(is_violation(small_guide(), partner, ["!a", "!b"] * 100, 0), False)
        self.assertIs(is_violation(small_guide(), partner, ["!a", "!b"] * 100, 1), False)

    def test_partners_that_follow(self):
        for partner, _ in FOLLOWERS:
            for size in range(4):
                for labels in itertools.product(LABELS, repeat=size):
                    for state in range(partner().states):
                        self.assertIs(is_violation(small_guide(), partner(), list(labels), state), False)

    def test_many_ways(self):
        # Each label leads on from both states to both, so that the number of ways doubles with each label.
        transitions = [(p, "!a", q) for p in range(2) for q in range(2)]
        guide = guide_of(([("!a", 0)], ["!b", "?x"], [["final"]]))
        self.assertIs(is_violation(guide, Partner(2, transitions, [0]), ["!a"] * 60, 1), True)
        self.assertIs(is_violation(guide, Partner(2, transitions, [0]), ["!a"] * 60, 0), False)

    def test_random_partners(self):
        lengths = set()
        for number, guide in enumerate(some_guides(14, 50)):
            told_guide = form(guide)
            for partner in some_partners(number, 6, LABELS):
                told = violation(guide, partner)
                lengths.add(self.check(guide, told_guide, partner, told))
                for labels in itertools.chain([()], *[itertools.product(LABELS, repeat=k) for k in (1, 2, 3)]):
                    for state in range(partner.states + 1):
                        expected = reference_guides.is_right_violation(told_guide, partner, labels, state)
                        self.assertIs(is_violation(guide, partner, list(labels), state), expected)
        self.assertTrue({None, 0, 1, 2, 3} <= lengths)

    def check(self, guide, told_guide, partner, told):
        length = reference_guides.least_labels_to_fault(told_guide, partner)
        self.assertIs(follows(guide, partner), told is None)
        if told is None:
            self.assertIsNone(length)
            return None
        self.assertEqual(len(told[0]), length)
        self.assertTrue(reference_guides.is_right_violation(told_guide, partner, *told))
        self.assertIs(is_violation(guide, partner, *told), True)
        return length


class ManyStatesTest(unittest.TestCase):
    def test_as_many_as_there_can_be(self):
        """300 states and 60 nodes: all pairs are met."""
        nodes = [([("!a", (k + 1) % 59), ("!b", k)], ["?x"], [["!a", "!b"]]) for k in range(60)]
        guide = guide_of(*nodes)
        ring = [(p, "!a", (p + 1) % 300) for p in range(300)]
        pairs = following(guide, Partner(300, ring, []))
        self.assertEqual(pairs, sorted((p, n) for p in range(300) for n in range(59)))
        self.assertIs(is_following(guide, Partner(300, ring, []), pairs), True)
        self.assertIs(is_following(guide, Partner(300, ring, []), pairs[:-1]), False)
        partner = Partner(300, ring[:-1], [])
        self.assertEqual(violation(guide, partner), (["!a"] * 299, 299))
        self.assertIs(is_violation(guide, partner, ["!a"] * 299, 299), True)

    def test_as_many_transitions_as_there_can_be(self):
        transitions = [(p, label, q) for p in range(20) for label in ("!a", "!b") for q in range(50)]
        guide = guide_of(([("!a", 0), ("!b", 0)], ["?x"], []))
        self.assertEqual(following(guide, Partner(50, transitions, [])), [(p, 0) for p in range(50)])


class ArgumentsTest(unittest.TestCase):
    """Point 2: arguments stay as they are, and what is returned belongs to the caller."""

    def test_arguments_and_answers(self):
        for partner in (straight(), two_ways(), OTHERS[3][0]):
            guide = small_guide()
            pairs, labels = [(0, 0), (1, 1), (2, 2)], ["!a", "?x"]
            before = picture([guide, partner, pairs, labels])
            answers = []
            for _ in range(2):
                told = [
                    follows(guide, partner), following(guide, partner), is_following(guide, partner, pairs),
                    violation(guide, partner), is_violation(guide, partner, labels, 2), follows_from(guide, partner, 1),
                ]
                self.assertEqual(picture([guide, partner, pairs, labels]), before)
                answers.append(picture(told))
                spoil(told)
                self.assertEqual(picture([guide, partner, pairs, labels]), before)
            self.assertEqual(answers[0], answers[1])


if __name__ == "__main__":
    unittest.main()
