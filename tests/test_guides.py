"""Tests of the guides of services, knowledge and hopeless lists; test_guide_form.py tests guides in general."""

import unittest

import reference
from examples import (
    ask_reply, bag, direct, example_links, fields_of_links, fields_of_service, reason_of, row,
    with_120_states, with_121_states, with_60_good_sets, with_60_sets, with_61_good_sets, with_61_sets,
)
from allwhotalk.guides import Guide, build, form, hopeless, is_hopeless, knowledge, least
from allwhotalk.machines import Links, Service
from allwhotalk.systems import system_states

NONE = (0, 0)
BOTH_DIRECT = Links(direct(), direct())


def state(s, a=(), b=(), losses=NONE, doubles=NONE):
    return (s, tuple(a), tuple(b), losses, doubles)


def nodes_of(service, links):
    """The moves, the forbidden labels and the clauses of each node of the guide."""
    return [(node.moves, node.forbidden, node.clauses) for node in build(service, links).nodes]


class KnowledgeTest(unittest.TestCase):
    def test_of_no_labels(self):
        self.assertEqual(knowledge(ask_reply(), example_links(), []), [state(0, losses=(1, 0))])
        service = Service(["a"], [], 3, [(0, "tau", 2), (1, "?a", 2)], [])
        self.assertEqual(knowledge(service, BOTH_DIRECT, []), [state(0), state(2)])

    def test_moves_of_the_service_and_faults_are_taken_in(self):
        self.assertEqual(knowledge(ask_reply(), example_links(), ["!ask"]), [
            state(0), state(0, ["ask"], (), (1, 0)), state(1, (), (), (1, 0)),
        ])

    def test_of_several_labels(self):
        links = example_links()
        self.assertEqual(knowledge(ask_reply(), links, ["!ask", "?reply"]), [state(0, losses=(1, 0))])
        self.assertEqual(knowledge(ask_reply(), links, ["!ask", "!ask"]), [
            state(0, ["ask"]), state(1), state(1, ["ask"], (), (1, 0)),
        ])
        self.assertEqual(
            knowledge(ask_reply(), links, ["!ask", "!ask", "?reply", "?reply"]), [state(0, losses=(1, 0))],
        )

    def test_of_a_label_without_results(self):
        links = example_links()
        self.assertEqual(knowledge(ask_reply(), links, ["?reply"]), [])
        for more in (["!ask"], ["?reply"], ["!ask", "?reply", "!ask"]):
            self.assertEqual(knowledge(ask_reply(), links, ["?reply"] + more), [])
        self.assertEqual(knowledge(ask_reply(), BOTH_DIRECT, ["!ask", "!ask"]), [])

    def test_all_results_of_all_elements(self):
        service = Service(["a"], ["x"], 4, [(0, "?a", 1), (0, "?a", 2), (1, "!x", 3), (2, "!x", 0), (2, "!x", 2)], [])
        self.assertEqual(knowledge(service, BOTH_DIRECT, ["!a"]), [state(1), state(2)])
        self.assertEqual(knowledge(service, BOTH_DIRECT, ["!a", "?x"]), [state(0), state(2), state(3)])
        self.assertEqual(knowledge(service, BOTH_DIRECT, ["!a", "?x", "!a"]), [state(1), state(2)])

    def test_many_labels(self):
        labels = ["!ask", "?reply"] * 200
        self.assertEqual(knowledge(ask_reply(), BOTH_DIRECT, labels), [state(0)])

    def test_of_more_than_60_sets(self):
        service, links = with_61_sets()
        expected = sorted(reference.knowledge(service, links, ["!a", "!b"]))
        self.assertEqual(knowledge(service, links, ["!a", "!b"]), expected)

    def test_too_many_system_states(self):
        service, links = with_121_states()
        self.assertEqual(reason_of(knowledge, service, links, []), "too many system states")
        service, links = with_120_states()
        self.assertEqual(len(knowledge(service, links, [])), 12)


class BuildTest(unittest.TestCase):
    def test_the_example(self):
        guide = build(ask_reply(), example_links())
        self.assertIsInstance(guide, Guide)
        self.assertEqual((guide.inputs, guide.outputs), (["ask"], ["reply"]))
        self.assertEqual(nodes_of(ask_reply(), example_links()), [
            ([("!ask", 1), ("?reply", 2)], [], [["!ask", "final"]]),
            ([("!ask", 3), ("?reply", 0)], [], [["!ask", "?reply"], ["!ask", "final"]]),
            ([("!ask", 2), ("?reply", 2)], [], []),
            ([("!ask", 4), ("?reply", 1)], [], [["?reply"]]),
            ([("!ask", 2), ("?reply", 5)], [], [["?reply"]]),
            ([("!ask", 4), ("?reply", 6)], [], [["!ask", "?reply"]]),
            ([("!ask", 5), ("?reply", 2)], [], [["!ask", "final"]]),
        ])

    def test_direct_links(self):
        self.assertEqual(nodes_of(ask_reply(), BOTH_DIRECT), [
            ([("!ask", 1), ("?reply", 2)], [], [["!ask", "final"]]),
            ([("!ask", 2), ("?reply", 0)], [], [["?reply"]]),
            ([("!ask", 2), ("?reply", 2)], [], []),
        ])

    def test_a_row(self):
        service = Service(["a"], [], 2, [(0, "?a", 1)], [1])
        self.assertEqual(nodes_of(service, Links(row(1), direct())), [
            ([("!a", 1)], [], [["!a"]]),
            ([], ["!a"], [["final"]]),
        ])

    def test_a_bag(self):
        service = Service(["a", "b"], [], 3, [(0, "?a", 1), (1, "?b", 2)], [2])
        self.assertEqual(nodes_of(service, Links(bag(2), direct())), [
            ([("!a", 1), ("!b", 2)], [], [["!a", "!b"]]),
            ([("!b", 3)], ["!a"], [["!b"]]),
            ([("!a", 3)], ["!b"], [["!a"]]),
            ([], ["!a", "!b"], [["final"]]),
        ])
        self.assertEqual(nodes_of(service, Links(row(2), direct())), [
            ([("!a", 1)], ["!b"], [["!a"]]),
            ([("!b", 2)], ["!a"], [["!b"]]),
            ([], ["!a", "!b"], [["final"]]),
        ])

    def test_a_link_to_the_partner(self):
        service = Service([], ["x"], 2, [(0, "!x", 1)], [1])
        self.assertEqual(nodes_of(service, Links(direct(), row(1))), [
            ([("?x", 1)], [], [["?x"]]),
            ([("?x", 2)], [], [["final"]]),
            ([("?x", 2)], [], []),
        ])
        self.assertEqual(nodes_of(service, Links(direct(), row(1, 1)))[0], (
            [("?x", 1)], [], [["?x"], ["final"]],
        ))

    def test_doubles(self):
        service = Service([], ["x"], 2, [(0, "!x", 1)], [1])
        self.assertEqual(nodes_of(service, Links(direct(), bag(2, 0, 1))), [
            ([("?x", 1)], [], [["?x"]]),
            ([("?x", 2)], [], [["?x"], ["final"]]),
            ([("?x", 3)], [], [["final"]]),
            ([("?x", 3)], [], []),
        ])

    def test_numbers_by_length_then_by_the_first_row(self):
        transitions = [
            (0, "?b", 1), (0, "?a", 2), (0, "!x", 3), (1, "?a", 4), (3, "?a", 5), (2, "?b", 6),
            (4, "?a", 0), (5, "?b", 0), (6, "?a", 7),
        ]
        service = Service(["a", "b"], ["x"], 8, transitions, [0])
        found = build(service, BOTH_DIRECT).nodes
        self.assertEqual(form(build(service, BOTH_DIRECT)), reference.guide(service, BOTH_DIRECT))
        # State 7 waits for ever, so node 0 has to forbid what can only lead there.
        self.assertEqual(found[0].moves, [("!b", 1), ("?x", 2)])
        self.assertEqual(found[0].forbidden, ["!a"])
        # Behind "!b" and "!a" is state 4, behind "?x" and "!a" state 5, and nothing behind other labels.
        self.assertEqual(found[1].moves, [("!a", 3), ("!b", 4), ("?x", 4)])
        self.assertEqual(found[2].moves, [("!a", 5), ("!b", 4), ("?x", 4)])
        self.assertEqual(len(found), 6)

    def test_a_number_does_not_go_by_when_a_set_is_met_by_longer_rows(self):
        # State 3 is met behind "!a", "!a" and behind "!b": the shorter row counts.
        transitions = [(0, "?a", 1), (1, "?a", 3), (0, "?b", 3), (3, "?b", 0), (1, "?b", 2), (2, "?a", 0)]
        service = Service(["a", "b"], [], 4, transitions, [0])
        found = nodes_of(service, BOTH_DIRECT)
        self.assertEqual(found[0][0], [("!a", 1), ("!b", 2)])
        self.assertEqual(found[1][0], [("!a", 2), ("!b", 3)])
        self.assertEqual(found[2][0], [("!a", 4), ("!b", 0)])
        self.assertEqual(found[3][0], [("!a", 0), ("!b", 4)])
        self.assertEqual(found[4], ([("!a", 4), ("!b", 4)], [], []))

    def test_forbidden_labels(self):
        # Behind "!b" the service waits for ever without an end.
        service = Service(["a", "b"], [], 3, [(0, "?a", 1), (0, "?b", 2)], [1])
        self.assertEqual(nodes_of(service, BOTH_DIRECT), [
            ([("!a", 1)], ["!b"], [["!a"]]),
            ([("!a", 2), ("!b", 2)], [], [["final"]]),
            ([("!a", 2), ("!b", 2)], [], []),
        ])

    def test_sets_that_are_bad_through_others(self):
        chain = [(0, "?a", 1), (1, "?a", 2), (2, "?a", 3), (0, "?b", 4)]
        service = Service(["a", "b"], [], 5, chain, [4])
        self.assertEqual(nodes_of(service, BOTH_DIRECT)[0], ([("!b", 1)], ["!a"], [["!b"]]))
        # With a way out of the last state but one, the way there is good.
        service = Service(["a", "b"], [], 5, chain + [(2, "?b", 4)], [4])
        self.assertEqual([node[1] for node in nodes_of(service, BOTH_DIRECT)[:4]], [[], [], [], ["!a"]])

    def test_an_endless_exchange_is_not_bad(self):
        service = Service(["a"], [], 2, [(0, "?a", 1), (1, "?a", 0)], [])
        self.assertEqual(nodes_of(service, BOTH_DIRECT), [([("!a", 1)], [], [["!a"]]), ([("!a", 0)], [], [["!a"]])])

    def test_clauses_without_those_that_have_another_one_as_a_part(self):
        transitions = [
            (0, "tau", 1), (0, "tau", 2), (0, "tau", 3), (0, "tau", 4),
            (1, "?a", 1), (2, "?a", 2), (2, "?b", 2), (3, "?a", 3), (3, "!x", 3), (4, "!x", 4), (4, "?b", 4),
        ]
        service = Service(["a", "b"], ["x"], 5, transitions, [3])
        self.assertEqual(build(service, BOTH_DIRECT).nodes[0].clauses, [["!a"], ["!b", "?x"]])

    def test_clauses_each_once_ascending_with_final_last(self):
        transitions = [
            (0, "tau", 1), (0, "tau", 2), (0, "tau", 3), (0, "tau", 4),
            (1, "!x", 1), (2, "!x", 1), (3, "?b", 3), (4, "?a", 4), (4, "!x", 4),
        ]
        service = Service(["a", "b"], ["x"], 5, transitions, [3, 4])
        self.assertEqual(build(service, BOTH_DIRECT).nodes[0].clauses, [["!b", "final"], ["?x"]])
        service = Service(["a", "b"], ["x"], 5, transitions[:4] + transitions[5:], [1, 3, 4])
        self.assertEqual(build(service, BOTH_DIRECT).nodes[0].clauses, [["?x"], ["final"]])
        service = Service(["a", "b"], ["x"], 5, transitions, [1, 2, 3, 4])
        self.assertEqual(build(service, BOTH_DIRECT).nodes[0].clauses, [["!b", "final"], ["?x", "final"]])

    def test_forbidden_labels_are_in_no_clause(self):
        service = Service(["a", "b"], [], 3, [(0, "?a", 1), (0, "?b", 2), (1, "?b", 1)], [0])
        self.assertEqual(nodes_of(service, BOTH_DIRECT)[0], ([("!a", 1)], ["!b"], [["!a", "final"]]))

    def test_an_element_that_is_not_waiting_gives_no_clause(self):
        service = Service(["a"], [], 1, [(0, "tau", 0)], [])
        self.assertEqual(nodes_of(service, BOTH_DIRECT), [([("!a", 1)], [], []), ([("!a", 1)], [], [])])

    def test_no_labels(self):
        self.assertEqual(nodes_of(Service([], [], 1, [], [0]), BOTH_DIRECT), [([], [], [["final"]])])
        self.assertEqual(nodes_of(Service([], [], 1, [], []), BOTH_DIRECT), [])

    def test_no_nodes_where_the_first_knowledge_is_bad(self):
        for service in (
            Service(["a"], ["x"], 2, [(0, "?a", 1)], []),
            Service(["a"], ["x"], 3, [(0, "tau", 1), (0, "tau", 2), (1, "?a", 1)], []),
            Service(["a", "b"], [], 3, [(0, "?a", 1), (0, "?b", 2), (1, "?a", 2)], []),
        ):
            guide = build(service, BOTH_DIRECT)
            self.assertEqual((guide.inputs, guide.outputs, guide.nodes), (service.inputs, service.outputs, []))

    def test_no_partner_knows_which_way_the_service_went(self):
        # It waits for a or for b, and is lost with the other one: nobody can tell.
        transitions = [(0, "tau", 1), (0, "tau", 2), (1, "?a", 3), (1, "?b", 4), (2, "?b", 3), (2, "?a", 4)]
        service = Service(["a", "b"], [], 5, transitions, [3])
        self.assertEqual(nodes_of(service, BOTH_DIRECT), [])
        told = [(0, "!x", 1), (0, "!y", 2)] + transitions[2:]
        self.assertEqual(nodes_of(Service(["a", "b"], ["x", "y"], 5, told, [3]), BOTH_DIRECT)[0][2], [["?x", "?y"]])

    def test_60_sets_are_no_error(self):
        service, links = with_60_sets()
        self.assertEqual(len(reference.graph(service, links)), 60)
        self.assertEqual(form(build(service, links)), reference.guide(service, links))
        self.assertLess(len(build(service, links).nodes), 60)
        self.assertIsNone(hopeless(service, links))

    def test_60_nodes_are_no_error(self):
        service, links = with_60_good_sets()
        guide = build(service, links)
        self.assertEqual(len(guide.nodes), 60)
        self.assertEqual(form(guide), reference.guide(service, links))

    def test_61_sets_are_too_many(self):
        service, links = with_61_sets()
        self.assertEqual(len(reference.graph(service, links)), 61)
        self.assertLess(len(reference.guide(service, links)[2]), 60)
        self.assertEqual(reason_of(build, service, links), "too many nodes")
        self.assertEqual(reason_of(hopeless, service, links), "too many nodes")

    def test_61_sets_with_the_empty_one_are_too_many(self):
        service, links = with_61_good_sets()
        self.assertEqual(len(reference.graph(service, links)), 61)
        self.assertIn(frozenset(), reference.graph(service, links))
        self.assertEqual(reason_of(build, service, links), "too many nodes")

    def test_too_many_system_states_ahead_of_too_many_nodes(self):
        service, _ = with_61_good_sets()
        links = Links(bag(2, 2, 1), row(2, 1, 1))
        self.assertGreater(len(reference.reachable(service, links)), 120)
        self.assertGreater(len(reference.graph(service, links)), 60)
        self.assertEqual(reason_of(build, service, links), "too many system states")
        self.assertEqual(reason_of(hopeless, service, links), "too many system states")

    def test_121_system_states_with_few_sets(self):
        ring = [(k, "tau", (k + 1) % 12) for k in range(12)]
        service = Service(["a", "b", "c"], [], 12, ring, [0])
        links = Links(row(2), direct())
        self.assertLess(len(reference.graph(service, links)), 60)
        self.assertEqual(reason_of(build, service, links), "too many system states")
        self.assertEqual(reason_of(hopeless, service, links), "too many system states")


def lost():
    """A service that all partners get stuck with: it takes a or b, or both, and then waits for ever."""
    return Service(["a", "b"], ["x"], 3, [(0, "?a", 1), (0, "?b", 2), (1, "?b", 2)], [])


def waiting_for(labels):
    """A service that waits for the first label, then for the next one, and behind the last one for nothing."""
    transitions = [(k, label, k + 1) for k, label in enumerate(labels)]
    return Service(["a"], ["x"], len(labels) + 1, transitions, [])


class HopelessTest(unittest.TestCase):
    def test_none_exactly_where_the_guide_has_nodes(self):
        for service, links in (
            (ask_reply(), example_links()), (ask_reply(), BOTH_DIRECT), with_60_good_sets(),
            (lost(), BOTH_DIRECT), (waiting_for(["?a", "!x"]), BOTH_DIRECT),
            (waiting_for(["?a", "!x"]), Links(row(1), bag(1))),
        ):
            pairs = hopeless(service, links)
            self.assertIs(pairs is None, len(build(service, links).nodes) > 0)
            self.assertIs(is_hopeless(service, links, pairs or []), pairs is not None)

    def test_what_it_returns(self):
        self.assertEqual(hopeless(waiting_for(["?a", "!x"]), BOTH_DIRECT), [
            ([state(0)], state(0)), ([state(1)], state(1)), ([state(2)], state(2)),
        ])
        self.assertEqual(hopeless(Service([], [], 1, [], []), BOTH_DIRECT), [([state(0)], state(0))])

    def test_only_needed_pairs(self):
        # The set behind "!a" is bad as well, but state 1 shows that all is lost without it.
        transitions = [(0, "tau", 1), (0, "tau", 2), (2, "?a", 3)]
        service = Service(["a"], [], 4, transitions, [])
        self.assertEqual(hopeless(service, BOTH_DIRECT), [([state(0), state(1), state(2)], state(1))])

    def test_lists_of_pairs_of_a_list_and_a_state(self):
        pairs = hopeless(waiting_for(["?a"]), BOTH_DIRECT)
        self.assertIsInstance(pairs, list)
        for pair in pairs:
            self.assertIsInstance(pair, tuple)
            self.assertIsInstance(pair[0], list)
            self.assertIn(pair[1], pair[0])


class IsHopelessTest(unittest.TestCase):
    def assert_right(self, service, links, pairs):
        self.assertIs(is_hopeless(service, links, pairs), True)

    def assert_wrong(self, service, links, pairs):
        self.assertIs(is_hopeless(service, links, pairs), False)

    def test_the_list_of_hopeless(self):
        for links in (BOTH_DIRECT, Links(row(1, 1), direct()), Links(direct(), bag(2, 1, 1))):
            for service in (lost(), waiting_for(["?a", "!x", "?a"])):
                self.assert_right(service, links, hopeless(service, links))

    def test_the_empty_list(self):
        self.assert_wrong(lost(), BOTH_DIRECT, [])
        self.assert_wrong(ask_reply(), BOTH_DIRECT, [])

    def test_where_there_is_a_good_partner(self):
        self.assert_wrong(ask_reply(), BOTH_DIRECT, [([state(0)], state(0))])
        self.assert_wrong(ask_reply(), BOTH_DIRECT, [([state(0)], state(0)), ([state(1)], state(1))])
        self.assert_wrong(ask_reply(), BOTH_DIRECT, [([state(1)], state(1)), ([state(0)], state(0))])

    def test_a_first_set_that_is_not_the_first_knowledge(self):
        service = waiting_for(["?a", "!x"])
        pairs = hopeless(service, BOTH_DIRECT)
        self.assert_wrong(service, BOTH_DIRECT, pairs[1:])
        self.assert_wrong(service, BOTH_DIRECT, [pairs[1]] + pairs)
        self.assert_wrong(service, BOTH_DIRECT, pairs[::-1])

    def test_a_set_that_is_not_closed(self):
        service = Service([], ["x"], 3, [(0, "tau", 1), (0, "tau", 2)], [1])
        whole = [state(0), state(1), state(2)]
        self.assert_right(service, BOTH_DIRECT, [(whole, state(2))])
        self.assert_wrong(service, BOTH_DIRECT, [([state(0), state(2)], state(2))])
        self.assert_wrong(service, BOTH_DIRECT, [([state(2)], state(2))])
        pairs = [(whole, state(2)), ([state(0), state(2)], state(2))]
        self.assert_wrong(service, BOTH_DIRECT, pairs)
        self.assert_right(service, BOTH_DIRECT, [(whole, state(2)), ([state(2)], state(2))])

    def test_a_set_that_is_not_closed_under_faults(self):
        service = Service(["a"], [], 1, [], [])
        links = Links(row(1, 1), direct())
        full, gone = state(0, "a", (), (1, 0)), state(0)
        later_full = state(0, "a")
        first = ([state(0, losses=(1, 0))], state(0, losses=(1, 0)))
        self.assert_right(service, links, [
            first, ([gone, full], full), ([later_full], later_full),
        ])
        self.assert_wrong(service, links, [first, ([full], full), ([later_full], later_full)])

    def test_a_set_that_does_not_ascend(self):
        service = Service([], ["x"], 3, [(0, "tau", 1), (0, "tau", 2)], [1])
        for wrong in ([1, 0, 2], [2, 1, 0], [0, 1, 1, 2], [0, 1, 2, 2]):
            self.assert_wrong(service, BOTH_DIRECT, [([state(s) for s in wrong], state(2))])
        later = [([state(0), state(1), state(2)], state(2)), ([state(2), state(1)], state(2))]
        self.assert_wrong(service, BOTH_DIRECT, later)
        self.assert_right(service, BOTH_DIRECT, [later[0], ([state(1), state(2)], state(2))])

    def test_a_set_with_what_is_no_reachable_system_state(self):
        service = waiting_for(["?a"])
        pairs = hopeless(service, BOTH_DIRECT)
        self.assert_wrong(service, BOTH_DIRECT, pairs[:1] + [([state(1), state(5)], state(1))])
        self.assert_wrong(service, BOTH_DIRECT, pairs + [([state(5)], state(5))])

    def test_an_element_that_does_not_fit(self):
        transitions = [(0, "tau", 1), (0, "tau", 2), (3, "tau", 0), (2, "?a", 3)]
        service = Service(["a"], [], 4, transitions, [1])
        whole = [state(0), state(1), state(2)]
        behind = ([state(0), state(1), state(2), state(3)], state(2))
        # Not in its set, not waiting, finished.
        for element in (state(3), state(0), state(1)):
            self.assert_wrong(service, BOTH_DIRECT, [(whole, element)])
            self.assert_wrong(service, BOTH_DIRECT, [(whole, element), behind])
        # In its set, waiting and not finished, but its label leads the second set to itself.
        self.assert_wrong(service, BOTH_DIRECT, [(whole, state(2)), behind])
        service = Service(["a"], [], 4, transitions[:2], [1])
        for element in (state(0), state(1)):
            self.assert_wrong(service, BOTH_DIRECT, [(whole, element)])
        self.assert_right(service, BOTH_DIRECT, [(whole, state(2))])

    def test_an_element_of_another_set(self):
        service = waiting_for(["?a"])
        self.assert_right(service, BOTH_DIRECT, [([state(0)], state(0)), ([state(1)], state(1))])
        self.assert_wrong(service, BOTH_DIRECT, [([state(0)], state(1)), ([state(1)], state(1))])
        self.assert_wrong(service, BOTH_DIRECT, [([state(0)], state(0)), ([state(1)], state(0))])

    def test_finished_where_the_element_is_only_final(self):
        service = Service(["a"], [], 1, [], [0])
        links = Links(row(1), direct())
        self.assert_wrong(service, links, [([state(0)], state(0)), ([state(0, "a")], state(0, "a"))])

    def test_an_enabled_label_without_a_later_set(self):
        service = lost()
        pairs = hopeless(service, BOTH_DIRECT)
        self.assertEqual(len(pairs), 3)
        for at in range(3):
            self.assert_wrong(service, BOTH_DIRECT, pairs[:at] + pairs[at + 1:])
        self.assert_wrong(service, BOTH_DIRECT, [pairs[0], pairs[2], pairs[1]])
        self.assert_wrong(service, BOTH_DIRECT, [pairs[1], pairs[0], pairs[2]])

    def test_a_set_of_the_same_pair_is_not_later(self):
        service = Service(["a"], [], 1, [(0, "?a", 0)], [])
        pair = ([state(0)], state(0))
        for many in (1, 2, 5):
            self.assert_wrong(service, BOTH_DIRECT, [pair] * many)

    def test_labels_lead_all_elements_of_the_set(self):
        service = Service(["a"], [], 4, [(0, "tau", 1), (0, "?a", 2), (1, "?a", 3)], [])
        first, behind = [state(0), state(1)], [state(2), state(3)]
        self.assert_right(service, BOTH_DIRECT, [(first, state(1)), (behind, state(3))])
        self.assert_right(service, BOTH_DIRECT, [(first, state(1)), (behind, state(2))])
        self.assert_wrong(service, BOTH_DIRECT, [(first, state(1)), ([state(3)], state(3))])

    def test_a_pair_twice(self):
        pairs = hopeless(waiting_for(["?a", "!x"]), BOTH_DIRECT)
        for right in (pairs[:1] + pairs, pairs[:2] + pairs[1:], pairs + pairs[2:]):
            self.assert_right(waiting_for(["?a", "!x"]), BOTH_DIRECT, right)
        for wrong in (pairs + pairs[:1], pairs + pairs[1:2]):
            self.assert_wrong(waiting_for(["?a", "!x"]), BOTH_DIRECT, wrong)

    def test_pairs_that_are_not_needed(self):
        service = waiting_for(["?a", "!x"])
        pairs = hopeless(service, BOTH_DIRECT)
        self.assert_right(service, BOTH_DIRECT, [pairs[0], pairs[2], pairs[1], pairs[2]])

    def test_two_pairs_with_one_set(self):
        service = Service(["a"], [], 4, [(0, "tau", 1), (0, "tau", 2), (2, "?a", 3)], [])
        whole = [state(0), state(1), state(2)]
        self.assert_right(service, BOTH_DIRECT, [(whole, state(1))])
        self.assert_wrong(service, BOTH_DIRECT, [(whole, state(2))])
        self.assert_right(service, BOTH_DIRECT, [(whole, state(2)), ([state(3)], state(3))])
        self.assert_right(service, BOTH_DIRECT, [(whole, state(2)), (whole, state(1)), ([state(3)], state(3))])

    def test_errors(self):
        service, links = with_121_states()
        self.assertEqual(reason_of(is_hopeless, service, links, []), "too many system states")
        # More than 60 sets do not matter to the check.
        service, links = with_61_sets()
        self.assertIs(is_hopeless(service, links, []), False)


class OwnershipTest(unittest.TestCase):
    def test_arguments_stay(self):
        service, links = lost(), Links(row(1, 1), direct())
        labels, pairs = ["!a", "?x"], hopeless(lost(), links)
        kept = [(list(states), element) for states, element in pairs]
        build(service, links)
        knowledge(service, links, labels)
        is_hopeless(service, links, pairs)
        self.assertEqual(fields_of_service(service), fields_of_service(lost()))
        self.assertEqual(fields_of_links(links), [(1, "row", 1, 0), (0, "row", 0, 0)])
        self.assertEqual((labels, pairs), (["!a", "?x"], kept))

    def test_answers_are_new(self):
        service, links = ask_reply(), example_links()
        knowledge(service, links, ["!ask"]).clear()
        self.assertEqual(len(knowledge(service, links, ["!ask"])), 3)
        pairs = hopeless(lost(), BOTH_DIRECT)
        for states, _ in pairs:
            states.clear()
        pairs.pop()
        self.assertIs(is_hopeless(lost(), BOTH_DIRECT, hopeless(lost(), BOTH_DIRECT)), True)
        system_states(service, links).clear()
        guide = build(service, links)
        guide.nodes[0].moves.clear()
        guide.nodes[1].clauses[0].append("?reply")
        guide.nodes.pop()
        guide.inputs.append("more")
        self.assertEqual(form(build(service, links)), reference.guide(service, links))
        self.assertEqual(service.inputs, ["ask"])

    def test_the_guide_keeps_nothing_of_the_service(self):
        service, links = ask_reply(), example_links()
        guide = build(service, links)
        service.inputs.append("more")
        service.transitions.clear()
        self.assertEqual(form(guide), reference.guide(ask_reply(), example_links()))
        self.assertEqual(form(least(guide))[0], ("ask",))


if __name__ == "__main__":
    unittest.main()
