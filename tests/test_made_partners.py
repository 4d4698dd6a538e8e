"""Tests of the partners that are made from guides: the most permissive one, the chosen one, the representative."""

import itertools
import unittest

import reference_guides
from examples import (
    ask_reply, example_links, fields_of_partner, guide_of, picture, reason_of, ring, small_guide, some_guides,
    some_partners, spoil,
)
from allwhotalk.guides import Guide, build, form
from allwhotalk.machines import Partner
from allwhotalk.partners import chosen, follows, follows_from, most_permissive, representative

LABELS = ["!a", "!b", "?x"]
SIX = (["a", "b", "c"], ["x", "y", "z"])
SIX_LABELS = ["!a", "!b", "!c", "?x", "?y", "?z"]
NO_NODES = Guide(["a", "b"], ["x"], [])


class MostPermissiveTest(unittest.TestCase):
    def test_the_small_guide(self):
        partner = most_permissive(small_guide())
        self.assertIsInstance(partner, Partner)
        self.assertEqual(
            fields_of_partner(partner), (3, [(0, "!a", 1), (1, "!b", 0), (1, "?x", 2)], [0, 1, 2]),
        )

    def test_all_nodes_are_states(self):
        """Also those to which no moves lead; states have the numbers of nodes."""
        guide = guide_of(
            ([("!a", 3)], ["!b", "?x"], []), ([("!b", 1), ("?x", 0)], ["!a"], [["!b"]]),
            ([], LABELS, []), ([], LABELS, [["final"]]),
        )
        self.assertEqual(
            fields_of_partner(most_permissive(guide)),
            (4, [(0, "!a", 3), (1, "!b", 1), (1, "?x", 0)], [0, 1, 2, 3]),
        )

    def test_the_example(self):
        partner = most_permissive(build(ask_reply(), example_links()))
        self.assertEqual(partner.states, 7)
        self.assertEqual(len(partner.transitions), 14)
        self.assertEqual(partner.final, [0, 1, 2, 3, 4, 5, 6])

    def test_it_follows(self):
        for guide in some_guides(21, 100) + [small_guide(), ring(60), ring(1)]:
            self.assertEqual(fields_of_partner(most_permissive(guide)), reference_guides.most_permissive(form(guide)))
            self.assertIs(follows(guide, most_permissive(guide)), True)

    def test_it_has_what_any_follower_has(self):
        """Point 29: at each row of labels."""
        checked = 0
        for number, guide in enumerate(some_guides(22, 60)):
            top = most_permissive(guide)
            for partner in some_partners(number, 8, LABELS):
                if follows(guide, partner):
                    for labels in itertools.product(LABELS, repeat=3):
                        for size in range(3):
                            self.assertTrue(items_behind(partner, labels[:size]) <= items_behind(top, labels[:size]))
                            checked += 1
        self.assertGreater(checked, 1000)

    def test_no_nodes(self):
        self.assertEqual(reason_of(most_permissive, NO_NODES), "no nodes")


def items_behind(partner, labels):
    """The labels, and "final", that the partner has at some state behind these labels."""
    states = {0}
    for label in labels:
        states = {q for p, own, q in partner.transitions if p in states and own == label}
    items = {own for p, own, _ in partner.transitions if p in states}
    return items | ({"final"} if states & set(partner.final) else set())


class ChosenTest(unittest.TestCase):
    def assert_chosen(self, clauses, labels, final):
        """At a node with all moves and these clauses just these labels are chosen."""
        moves = [("!a", 0), ("!b", 0), ("?x", 0)]
        partner = chosen(guide_of((moves, [], clauses)))
        self.assertEqual(fields_of_partner(partner), (1, [(0, label, 0) for label in labels], [0] if final else []))

    def test_the_choice_at_a_node(self):
        self.assert_chosen([], [], False)
        self.assert_chosen([["!a"]], ["!a"], False)
        self.assert_chosen([["!a", "!b"]], ["!a"], False)
        self.assert_chosen([["!b", "?x"]], ["!b"], False)
        self.assert_chosen([["final"]], [], True)
        self.assert_chosen([["!a", "final"]], [], True)
        self.assert_chosen([["!a", "!b", "?x", "final"]], [], True)

    def test_clause_by_clause(self):
        self.assert_chosen([["!a"], ["!b"], ["?x"]], ["!a", "!b", "?x"], False)
        self.assert_chosen([["!a", "!b"], ["!a", "?x"]], ["!a"], False)
        self.assert_chosen([["!a", "!b"], ["!b", "?x"]], ["!a", "!b"], False)
        # The second clause is met by what the first one chose, the third one is not.
        self.assert_chosen([["!a", "?x"], ["!a", "final"], ["!b", "?x"]], ["!a", "!b"], False)
        self.assert_chosen([["!a", "final"], ["!b", "?x"]], ["!b"], True)
        self.assert_chosen([["!a", "final"], ["!b", "final"]], [], True)
        self.assert_chosen([["!a", "final"], ["!b"], ["?x", "final"]], ["!b"], True)
        # In the order of the clauses, although "?x" alone would meet both.
        self.assert_chosen([["!a", "?x"], ["!b", "?x"]], ["!a", "!b"], False)
        self.assert_chosen([["!a"], ["!b"], ["?x", "final"]], ["!a", "!b"], True)

    def test_the_small_guide(self):
        partner = chosen(small_guide())
        self.assertIsInstance(partner, Partner)
        self.assertEqual(fields_of_partner(partner), (2, [(0, "!a", 1), (1, "!b", 0)], [1]))

    def test_nodes_to_which_no_chosen_label_leads(self):
        guide = guide_of(
            ([("!a", 1), ("!b", 2)], ["?x"], [["!b"]]), ([("!a", 1)], ["!b", "?x"], [["!a"]]),
            ([("!a", 1), ("?x", 3)], ["!b"], [["?x"]]), ([], LABELS, [["final"]]),
        )
        self.assertEqual(fields_of_partner(chosen(guide)), (3, [(0, "!b", 1), (1, "?x", 2)], [2]))
        nothing = guide_of(([("!a", 1)], ["!b", "?x"], []), ([("!a", 0)], ["!b", "?x"], [["!a"]]))
        self.assertEqual(fields_of_partner(chosen(nothing)), (1, [], []))

    def test_numbers(self):
        """By the length of the shortest row of chosen labels, then by the first such row."""
        guide = guide_of(
            ([("!a", 4), ("!b", 3), ("?x", 1)], [], [["!a"], ["?x"]]),
            ([("!a", 3)], ["!b", "?x"], [["!a"]]),
            ([("!a", 0)], ["!b", "?x"], []),
            ([("!b", 2)], ["!a", "?x"], [["!b", "final"]]),
            ([("!a", 2), ("!b", 1)], ["?x"], [["!a"], ["!b", "final"]]),
        )
        # Node 4 is behind "!a", node 1 behind "?x", node 2 behind "!a", "!a", node 3 behind "?x", "!a".
        self.assertEqual(fields_of_partner(chosen(guide)), (
            5, [(0, "!a", 1), (0, "?x", 2), (1, "!a", 3), (2, "!a", 4)], [1, 4],
        ))

    def test_the_example(self):
        partner = chosen(build(ask_reply(), example_links()))
        self.assertEqual(fields_of_partner(partner), (1, [], [0]))

    def test_it_follows(self):
        sizes = set()
        for guide in some_guides(23, 200, most=8) + some_guides(24, 50, *SIX, 8) + [small_guide(), ring(60)]:
            partner = chosen(guide)
            self.assertEqual(fields_of_partner(partner), reference_guides.chosen(form(guide)))
            self.assertIs(follows(guide, partner), True)
            sizes.add(partner.states)
        self.assertTrue({1, 2, 3, 4} <= sizes)

    def test_no_nodes(self):
        self.assertEqual(reason_of(chosen, NO_NODES), "no nodes")


class RepresentativeTest(unittest.TestCase):
    def assert_offers(self, clauses, offers):
        """At a node with all moves, back to itself, and these clauses the states are those with these offers."""
        moves = [("!a", 0), ("!b", 0), ("?x", 0)]
        partner, starts = representative(guide_of((moves, [], clauses)))
        every = list(range(len(offers)))
        transitions = [(k, label, j) for k in every for label in offers[k] if label != "final" for j in every]
        final = [k for k in every if "final" in offers[k]]
        self.assertEqual(fields_of_partner(partner), (len(offers), transitions, final))
        self.assertEqual(starts, every)

    def test_a_pair_of_a_partner_and_a_list(self):
        told = representative(small_guide())
        self.assertIsInstance(told, tuple)
        self.assertEqual(len(told), 2)
        self.assertIsInstance(told[0], Partner)
        self.assertIsInstance(told[1], list)

    def test_the_small_guide(self):
        # The states are (0, !a), (0, !a final), (1, !b ?x final), (1, !b final), (1, ?x), (2, final).
        partner, starts = representative(small_guide())
        self.assertEqual(fields_of_partner(partner), (6, [
            (0, "!a", 2), (0, "!a", 3), (0, "!a", 4), (1, "!a", 2), (1, "!a", 3), (1, "!a", 4),
            (2, "!b", 0), (2, "!b", 1), (2, "?x", 5), (3, "!b", 0), (3, "!b", 1), (4, "?x", 5),
        ], [1, 2, 3, 5]))
        self.assertEqual(starts, [0, 1])

    def test_a_node_without_clauses(self):
        self.assert_offers([], [[], ["!a", "!b", "?x", "final"]])

    def test_one_clause(self):
        full = ["!a", "!b", "?x", "final"]
        self.assert_offers([["!a"]], [["!a"], full])
        self.assert_offers([["final"]], [full, ["final"]])
        self.assert_offers([["!b", "?x"]], [full, ["!b"], ["?x"]])
        self.assert_offers([full], [["!a"], full, ["!b"], ["?x"], ["final"]])

    def test_clauses_that_share_items(self):
        full = ["!a", "!b", "?x", "final"]
        self.assert_offers([["!a", "!b"], ["!a", "?x"]], [["!a"], full, ["!b", "?x"]])
        self.assert_offers(
            [["!a", "!b"], ["!a", "final"], ["!b", "final"]], [["!a", "!b"], full, ["!a", "final"], ["!b", "final"]],
        )
        self.assert_offers(
            [["!a", "!b"], ["!b", "?x"], ["?x", "final"]],
            [["!a", "!b", "?x", "final"], ["!a", "?x"], ["!b", "?x"], ["!b", "final"]],
        )

    def test_clauses_that_share_none(self):
        full = ["!a", "!b", "?x", "final"]
        self.assert_offers(
            [["!a", "!b"], ["?x", "final"]],
            [["!a", "!b", "?x", "final"], ["!a", "?x"], ["!a", "final"], ["!b", "?x"], ["!b", "final"]],
        )
        self.assert_offers([["!a"], ["!b"], ["?x"], ["final"]], [full])
        self.assert_offers([["!a"], ["!b"], ["?x"]], [["!a", "!b", "?x"], full])

    def test_nodes_without_moves(self):
        partner, starts = representative(guide_of(([], LABELS, [])))
        self.assertEqual((fields_of_partner(partner), starts), ((2, [], [1]), [0, 1]))
        partner, starts = representative(guide_of(([], LABELS, [["final"]])))
        self.assertEqual((fields_of_partner(partner), starts), ((1, [], [0]), [0]))

    def test_nodes_to_which_no_moves_lead(self):
        guide = guide_of(([("!a", 0)], ["!b", "?x"], [["!a"]]), ([("!b", 0)], ["!a", "?x"], []))
        partner, starts = representative(guide)
        self.assertEqual(fields_of_partner(partner), (4, [
            (0, "!a", 0), (0, "!a", 1), (1, "!a", 0), (1, "!a", 1), (3, "!b", 0), (3, "!b", 1),
        ], [1, 3]))
        self.assertEqual(starts, [0, 1])

    def test_random_guides(self):
        made = 0
        for guide in some_guides(25, 120) + some_guides(26, 12, *SIX, 3):
            expected, starts = reference_guides.representative(form(guide))
            if expected[0] > 300 or len(expected[1]) > 2000:
                self.assertEqual(reason_of(representative, guide), "no partner")
                continue
            partner, told = representative(guide)
            self.assertEqual(fields_of_partner(partner), expected)
            self.assertEqual(told, starts)
            self.assertTrue(all(follows_from(guide, partner, start) for start in starts))
            made += 1
        self.assertGreater(made, 100)

    def test_every_follower_of_it_from_each_start(self):
        """Point 25: all who follow a guide follow another one exactly if the representative does."""
        seen = set()
        guides = some_guides(27, 40, most=3)
        for one, two in itertools.product(guides[:12], guides):
            partner, starts = representative(one)
            told = all(follows_from(two, partner, start) for start in starts)
            self.assertIs(told, reference_guides.is_within(form(one), form(two)))
            seen.add(told)
        self.assertEqual(seen, {True, False})

    def test_no_nodes(self):
        self.assertEqual(reason_of(representative, NO_NODES), "no nodes")


def with_states(*clauses_of):
    """A guide with the labels !a, !b and !c, all of them back to node 0, and nodes with these clauses."""
    moves = [("!a", 0), ("!b", 0), ("!c", 0)]
    return guide_of(*[(moves, [], clauses) for clauses in clauses_of], inputs=["a", "b", "c"], outputs=[])


def with_transitions(more):
    """A guide whose representative has 1976 transitions and as many as there are more."""
    return guide_of(
        # 36 states, and each label in 21 of them: two labels lead to 36 states, the others to two.
        ([(label, 0 if label in ("!a", "!b") else 3) for label in SIX_LABELS], [], four_of_seven()),
        # 8 states, and each label in 2 of them: four labels lead to 36 states, the others to two.
        ([(label, 0 if label in SIX_LABELS[:4] else 3) for label in SIX_LABELS], [], [SIX_LABELS + ["final"]]),
        ([], SIX_LABELS, [["final"]]),
        ([], SIX_LABELS, []),
        # 2 states, and one transition to the one state of node 2.
        *[([("!a", 2)], SIX_LABELS[1:], [])] * more,
        inputs=SIX[0], outputs=SIX[1],
    )


def four_of_seven():
    return [list(some) for some in itertools.combinations(SIX_LABELS + ["final"], 4)]


class RepresentativeBoundsTest(unittest.TestCase):
    FIVE = [["!a", "!b", "!c", "final"]]
    FOUR = [["!a", "!b", "!c"]]
    SEVEN = [list(some) for some in itertools.combinations(["!a", "!b", "!c", "final"], 3)]

    def test_300_states(self):
        partner, starts = representative(with_states(*[self.FIVE] * 60))
        self.assertEqual((partner.states, len(partner.transitions)), (300, 1800))
        self.assertEqual(starts, [0, 1, 2, 3, 4])

    def test_301_states(self):
        fewer = with_states(*[self.FIVE] * 57, self.SEVEN, self.FOUR)
        partner, _ = representative(fewer)
        self.assertEqual((partner.states, len(partner.transitions)), (296, 57 * 30 + 60 + 30))
        more = with_states(*[self.FIVE] * 58, self.SEVEN, self.FOUR)
        self.assertEqual(reference_guides.representative(form(more))[0][0], 301)
        self.assertEqual(reason_of(representative, more), "no partner")

    def test_2000_transitions(self):
        partner, starts = representative(with_transitions(24))
        self.assertEqual((partner.states, len(partner.transitions)), (95, 2000))
        self.assertEqual(starts, list(range(36)))

    def test_2001_transitions(self):
        expected, _ = reference_guides.representative(form(with_transitions(25)))
        self.assertEqual((expected[0], len(expected[1])), (97, 2001))
        self.assertEqual(reason_of(representative, with_transitions(25)), "no partner")

    def test_many_more(self):
        moves = [(label, 0) for label in SIX_LABELS]
        guide = guide_of(*[(moves, [], four_of_seven())] * 60, inputs=SIX[0], outputs=SIX[1])
        self.assertEqual(reason_of(representative, guide), "no partner")


class ArgumentsTest(unittest.TestCase):
    """Point 2: arguments stay as they are, and what is returned belongs to the caller."""

    def test_arguments_and_answers(self):
        for function in (most_permissive, chosen, representative):
            guide = small_guide()
            before = picture(guide)
            told = function(guide)
            self.assertEqual(picture(guide), before)
            answer = picture(told)
            spoil(told)
            self.assertEqual(picture(guide), before)
            self.assertEqual(picture(function(guide)), answer)
            told = function(guide)
            spoil(guide)
            self.assertEqual(picture(told), answer)


if __name__ == "__main__":
    unittest.main()
