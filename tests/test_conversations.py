"""Tests of conversations."""

import itertools
import unittest

import reference
import reference_guides
from examples import ask_reply, example_links, guide_of, picture, reason_of, small_guide, some_guides, spoil
from allwhotalk.conversations import Conversation
from allwhotalk.guides import Guide, build, form
from allwhotalk.machines import Partner

LABELS = ["!a", "!b", "?x"]


def at_node_1():
    """A conversation at node 1 of the small guide."""
    conversation = Conversation(small_guide())
    conversation.record("!a")
    return conversation


def subsets(items):
    return [list(some) for size in range(len(items) + 1) for some in itertools.combinations(items, size)]


class RecordTest(unittest.TestCase):
    def test_at_first(self):
        conversation = Conversation(small_guide())
        self.assertEqual(conversation.node(), 0)
        self.assertEqual(conversation.history(), [])

    def test_no_nodes(self):
        self.assertEqual(reason_of(Conversation, Guide(["a"], ["x"], [])), "no nodes")
        self.assertEqual(reason_of(Conversation, Guide([], [], [])), "no nodes")

    def test_moves(self):
        conversation = Conversation(small_guide())
        self.assertEqual(conversation.record("!a"), 1)
        self.assertEqual((conversation.node(), conversation.history()), (1, ["!a"]))
        self.assertEqual(conversation.record("!b"), 0)
        self.assertEqual((conversation.node(), conversation.history()), (0, ["!a", "!b"]))
        self.assertEqual(conversation.record("!a"), 1)
        self.assertEqual(conversation.record("?x"), 2)
        self.assertEqual((conversation.node(), conversation.history()), (2, ["!a", "!b", "!a", "?x"]))

    def test_forbidden(self):
        conversation = Conversation(small_guide())
        for label in ("!b", "?x"):
            self.assertEqual(reason_of(conversation.record, label), "forbidden")
        conversation.record("!a")
        self.assertEqual(reason_of(conversation.record, "!a"), "forbidden")
        conversation.record("?x")
        for label in LABELS:
            self.assertEqual(reason_of(conversation.record, label), "forbidden")
        self.assertEqual((conversation.node(), conversation.history()), (2, ["!a", "?x"]))

    def test_200_labels(self):
        conversation = Conversation(small_guide())
        for _ in range(100):
            self.assertEqual(conversation.record("!a"), 1)
            self.assertEqual(conversation.record("!b"), 0)
        self.assertEqual(reason_of(conversation.record, "!a"), "history is full")
        self.assertEqual(reason_of(conversation.record, "!b"), "forbidden")
        self.assertEqual(reason_of(conversation.record, "?x"), "forbidden")
        self.assertEqual((conversation.node(), conversation.history()), (0, ["!a", "!b"] * 100))
        conversation.undo()
        self.assertEqual(reason_of(conversation.record, "!a"), "forbidden")
        self.assertEqual(conversation.record("?x"), 2)
        self.assertEqual(len(conversation.history()), 200)
        for label in LABELS:
            self.assertEqual(reason_of(conversation.record, label), "forbidden")

    def test_history_belongs_to_the_caller(self):
        conversation = at_node_1()
        spoil(conversation.history())
        conversation.history().clear()
        self.assertEqual(conversation.history(), ["!a"])
        earlier = conversation.history()
        conversation.record("!b")
        self.assertEqual(earlier, ["!a"])

    def test_the_guide_may_change_later(self):
        guide = small_guide()
        conversation = Conversation(guide)
        conversation.record("!a")
        twin = conversation.copy()
        spoil(guide)
        guide.nodes.clear()
        for each in (conversation, twin, conversation.copy()):
            self.assertEqual(each.count_rows(2), 1)
            self.assertIs(each.can_offer(["!b"], True), True)
            self.assertIs(each.can_offer(["!b"], False), False)
            self.assertEqual(each.record("?x"), 2)
            self.assertEqual(each.history(), ["!a", "?x"])

    def test_the_guide_is_not_changed(self):
        guide = small_guide()
        before = picture(guide)
        conversation = Conversation(guide)
        conversation.record("!a")
        labels = ["!b", "?x"]
        conversation.can_offer(labels, True)
        conversation.count_rows(5)
        conversation.copy().record("!b")
        conversation.undo()
        self.assertEqual(picture(guide), before)
        self.assertEqual(labels, ["!b", "?x"])


class UndoTest(unittest.TestCase):
    def test_nothing_to_undo(self):
        conversation = Conversation(small_guide())
        self.assertEqual(reason_of(conversation.undo), "nothing to undo")
        conversation.record("!a")
        self.assertEqual(conversation.undo(), "!a")
        self.assertEqual(reason_of(conversation.undo), "nothing to undo")
        self.assertEqual((conversation.node(), conversation.history()), (0, []))
        self.assertEqual(conversation.record("!a"), 1)

    def test_step_by_step(self):
        conversation = Conversation(small_guide())
        labels = ["!a", "!b", "!a", "?x"]
        nodes = [conversation.record(label) for label in labels]
        self.assertEqual(nodes, [1, 0, 1, 2])
        for k in (3, 2, 1, 0):
            self.assertEqual(conversation.undo(), labels[k])
            self.assertEqual(conversation.history(), labels[:k])
            self.assertEqual(conversation.node(), ([0] + nodes)[k])

    def test_behind_an_error(self):
        conversation = at_node_1()
        self.assertEqual(reason_of(conversation.record, "!a"), "forbidden")
        self.assertEqual(conversation.undo(), "!a")
        self.assertEqual(conversation.node(), 0)

    def test_another_way_behind_it(self):
        conversation = at_node_1()
        conversation.record("?x")
        self.assertEqual(conversation.undo(), "?x")
        self.assertEqual(conversation.record("!b"), 0)
        self.assertEqual(conversation.history(), ["!a", "!b"])


class CopyTest(unittest.TestCase):
    def test_both_go_on_by_themselves(self):
        one = at_node_1()
        two = one.copy()
        self.assertIsInstance(two, Conversation)
        self.assertEqual((two.node(), two.history()), (1, ["!a"]))
        one.record("!b")
        self.assertEqual((one.node(), one.history()), (0, ["!a", "!b"]))
        self.assertEqual((two.node(), two.history()), (1, ["!a"]))
        two.record("?x")
        self.assertEqual((one.node(), one.history()), (0, ["!a", "!b"]))
        self.assertEqual((two.node(), two.history()), (2, ["!a", "?x"]))
        self.assertEqual([one.undo(), one.undo()], ["!b", "!a"])
        self.assertEqual((two.node(), two.history()), (2, ["!a", "?x"]))
        self.assertEqual([two.undo(), two.undo()], ["?x", "!a"])
        self.assertEqual(reason_of(two.undo), "nothing to undo")

    def test_copies_of_copies(self):
        one = Conversation(small_guide())
        two = one.copy().copy()
        two.record("!a")
        three = two.copy()
        three.undo()
        self.assertEqual([each.node() for each in (one, two, three)], [0, 1, 0])

    def test_a_full_history(self):
        one = Conversation(small_guide())
        for _ in range(100):
            one.record("!a")
            one.record("!b")
        two = one.copy()
        self.assertEqual(reason_of(two.record, "!a"), "history is full")
        two.undo()
        self.assertEqual(two.record("!b"), 0)
        self.assertEqual(reason_of(one.record, "!a"), "history is full")


class CanOfferTest(unittest.TestCase):
    def offers(self, conversation):
        """All labels and finality that can be offered."""
        return [
            (labels, final) for labels in subsets(LABELS) for final in (False, True)
            if conversation.can_offer(labels, final)
        ]

    def test_at_each_node(self):
        conversation = Conversation(small_guide())
        self.assertEqual(self.offers(conversation), [(["!a"], False), (["!a"], True)])
        conversation.record("!a")
        self.assertEqual(self.offers(conversation), [
            (["!b"], True), (["?x"], False), (["?x"], True), (["!b", "?x"], False), (["!b", "?x"], True),
        ])
        conversation.record("?x")
        self.assertEqual(self.offers(conversation), [([], True)])
        conversation.undo()
        conversation.record("!b")
        self.assertEqual(self.offers(conversation), [(["!a"], False), (["!a"], True)])

    def test_true_or_false(self):
        conversation = at_node_1()
        self.assertIs(conversation.can_offer(["?x"], False), True)
        self.assertIs(conversation.can_offer(["!b"], False), False)
        self.assertIs(conversation.can_offer(["!a"], False), False)

    def test_in_any_order(self):
        conversation = at_node_1()
        self.assertIs(conversation.can_offer(["?x", "!b"], False), True)
        self.assertIs(conversation.can_offer(["?x", "!b", "!a"], True), False)

    def test_a_node_without_clauses(self):
        conversation = Conversation(guide_of(([("!a", 0)], ["!b", "?x"], [])))
        self.assertEqual(self.offers(conversation), [([], False), ([], True), (["!a"], False), (["!a"], True)])

    def test_a_clause_without_final(self):
        conversation = Conversation(guide_of(([("!a", 0), ("!b", 0)], ["?x"], [["!a"], ["!b", "final"]])))
        self.assertEqual(self.offers(conversation), [
            (["!a"], True), (["!a", "!b"], False), (["!a", "!b"], True),
        ])

    def test_random_guides(self):
        """As the words say, and exactly if there is such a partner."""
        for guide in some_guides(61, 60):
            conversation = Conversation(guide)
            for label in ("!a", "?x", "!b", "!a"):
                if reason_of(conversation.record, label) is None:
                    self.check(conversation, guide)

    def check(self, conversation, guide):
        for labels in subsets(LABELS):
            for final in (False, True):
                told = conversation.can_offer(labels, final)
                node = conversation.node()
                self.assertIs(told, reference_guides.can_offer(form(guide), node, labels, final))
                self.assertIs(told, has_such_a_follower(guide, node, labels, final))


def has_such_a_follower(guide, node, labels, final):
    """True if a partner with just these labels at first, and all moves behind them, follows from the node on."""
    moves = dict(guide.nodes[node].moves)
    many = len(guide.nodes)
    transitions = [(0, label, 1 + moves.get(label, 0)) for label in labels]
    transitions += [(1 + n, label, 1 + m) for n in range(many) for label, m in guide.nodes[n].moves]
    partner = Partner(1 + many, transitions, list(range(0 if final else 1, 1 + many)))
    return reference.follows(form(guide), partner, node)


class CountRowsTest(unittest.TestCase):
    def test_no_label(self):
        self.assertEqual(Conversation(small_guide()).count_rows(0), 1)
        conversation = at_node_1()
        conversation.record("?x")
        self.assertEqual(conversation.count_rows(0), 1)

    def test_one_label(self):
        conversation = Conversation(small_guide())
        self.assertEqual(conversation.count_rows(1), 1)
        conversation.record("!a")
        self.assertEqual(conversation.count_rows(1), 2)
        conversation.record("?x")
        self.assertEqual(conversation.count_rows(1), 0)
        self.assertEqual(conversation.count_rows(100), 0)

    def test_several_labels(self):
        # "!a", then "!b" and "!a" again and again, and "?x" at the end of some.
        self.assertEqual([Conversation(small_guide()).count_rows(k) for k in range(7)], [1, 1, 2, 1, 2, 1, 2])
        self.assertEqual([at_node_1().count_rows(k) for k in range(7)], [1, 2, 1, 2, 1, 2, 1])
        self.assertEqual(Conversation(small_guide()).count_rows(100), 2)

    def test_great_numbers(self):
        moves = [("!a", 0), ("!b", 0), ("?x", 0)]
        self.assertEqual(Conversation(guide_of((moves, [], []))).count_rows(100), 3 ** 100)
        six = [(label, 0) for label in ("!a", "!b", "!c", "?x", "?y", "?z")]
        guide = guide_of((six, [], []), inputs=["a", "b", "c"], outputs=["x", "y", "z"])
        self.assertEqual(Conversation(guide).count_rows(100), 6 ** 100)
        self.assertEqual(Conversation(guide).count_rows(1), 6)
        # Fibonacci's numbers: behind "!b" always "!a".
        guide = guide_of(([("!a", 0), ("!b", 1)], ["?x"], []), ([("!a", 0)], ["!b", "?x"], []))
        self.assertEqual([Conversation(guide).count_rows(k) for k in range(6)], [1, 2, 3, 5, 8, 13])
        self.assertEqual(Conversation(guide).count_rows(100), 927372692193078999176)

    def test_two_labels_to_one_node(self):
        guide = guide_of(([("!a", 1), ("!b", 1), ("?x", 1)], [], []), ([("!a", 1), ("?x", 0)], ["!b"], []))
        self.assertEqual([Conversation(guide).count_rows(k) for k in range(4)], [1, 3, 6, 15])

    def test_it_changes_nothing(self):
        conversation = at_node_1()
        conversation.count_rows(7)
        self.assertEqual((conversation.node(), conversation.history()), (1, ["!a"]))

    def test_random_guides(self):
        for guide in some_guides(62, 60):
            conversation = Conversation(guide)
            for label in ("!a", "!b", "?x"):
                for length in range(6):
                    expected = reference_guides.count_rows(form(guide), conversation.node(), length)
                    self.assertEqual(conversation.count_rows(length), expected)
                reason_of(conversation.record, label)

    def test_the_example(self):
        """Nothing is forbidden in its guide."""
        conversation = Conversation(build(ask_reply(), example_links()))
        self.assertEqual(conversation.count_rows(100), 2 ** 100)
        self.assertEqual(conversation.record("!ask"), 1)
        self.assertEqual(conversation.record("?reply"), 0)


if __name__ == "__main__":
    unittest.main()
