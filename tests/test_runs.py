"""Tests of allwhotalk.runs."""

import unittest

from examples import (
    ask_reply, bag, direct, example_links, fields_of_links, fields_of_partner, fields_of_service, impatient,
    patient, reason_of, row, with_120_states, with_121_states,
)
from allwhotalk.machines import Links, Partner, Service
from allwhotalk.runs import fault_table, is_good, is_stuck_run, stuck_run
from allwhotalk.systems import system_states

NONE = (0, 0)
BOTH_DIRECT = Links(direct(), direct())
# The states of the example in which the loss is left, and in which it is used up.
IDLE, ASKED, BUSY = (0, (), (), (1, 0), NONE), (0, ("ask",), (), (1, 0), NONE), (1, (), (), (1, 0), NONE)
IDLE_LATER, ASKED_LATER = (0, (), (), NONE, NONE), (0, ("ask",), (), NONE, NONE)
LOST_RUN = [("!ask", ASKED, 1), ("lose ask to service", IDLE_LATER, 1)]


class StuckRunTest(unittest.TestCase):
    def assert_good(self, service, links, partner):
        self.assertIsNone(stuck_run(service, links, partner))
        self.assertIs(is_good(service, links, partner), True)

    def assert_stuck(self, run, service, links, partner):
        self.assertEqual(stuck_run(service, links, partner), run)
        self.assertIs(is_good(service, links, partner), False)
        self.assertIs(is_stuck_run(service, links, partner, run), True)

    def test_the_example(self):
        self.assert_stuck(LOST_RUN, ask_reply(), example_links(), impatient())
        self.assert_good(ask_reply(), example_links(), patient())

    def test_without_losses(self):
        links = Links(row(1), direct())
        self.assert_good(ask_reply(), links, impatient())
        self.assert_good(ask_reply(), BOTH_DIRECT, impatient())
        self.assert_good(ask_reply(), BOTH_DIRECT, patient())

    def test_no_triple_if_the_first_configuration_is_stuck(self):
        self.assert_stuck([], ask_reply(), BOTH_DIRECT, Partner(1, [], []))
        service = Service(["ask"], ["reply"], 2, [(0, "?ask", 1), (1, "!reply", 0)], [])
        self.assert_stuck([], service, BOTH_DIRECT, Partner(1, [], [0]))
        self.assert_stuck([], ask_reply(), BOTH_DIRECT, Partner(1, [(0, "?reply", 0)], []))

    def test_finished_on_both_sides_is_not_stuck(self):
        self.assert_good(ask_reply(), BOTH_DIRECT, Partner(1, [], [0]))
        self.assert_good(ask_reply(), BOTH_DIRECT, Partner(1, [(0, "?reply", 0)], [0]))

    def test_final_states_do_not_help_while_a_message_lies_in_a_link(self):
        service = Service(["a"], ["x"], 1, [], [0])
        partner = Partner(1, [(0, "!a", 0)], [0])
        self.assert_good(service, BOTH_DIRECT, partner)
        self.assert_stuck([("!a", (0, ("a",), (), NONE, NONE), 0)], service, Links(row(1), direct()), partner)
        sender = Service([], ["x"], 2, [(0, "!x", 1)], [1])
        sent = [("service !x", (1, (), ("x",), NONE, NONE), 0)]
        self.assert_stuck(sent, sender, Links(direct(), bag(1)), Partner(1, [], [0]))
        self.assert_good(sender, Links(direct(), bag(1)), Partner(2, [(0, "?x", 1)], [1]))

    def test_enabled_labels_that_the_partner_does_not_have_do_not_help(self):
        service = Service(["a", "b"], [], 2, [(0, "?a", 1), (0, "?b", 0)], [1])
        self.assert_good(service, BOTH_DIRECT, Partner(2, [(0, "!a", 1)], [1]))
        self.assert_stuck([], service, BOTH_DIRECT, Partner(2, [(1, "!a", 1)], [1]))
        self.assert_stuck([("!b", (0, (), (), NONE, NONE), 1)], service, BOTH_DIRECT, Partner(2, [(0, "!b", 1)], [1]))

    def test_as_few_triples_as_possible(self):
        service = Service(["a", "b"], [], 4, [(0, "?a", 1), (1, "?a", 2), (0, "?b", 3)], [])
        partner = Partner(1, [(0, "!a", 0), (0, "!b", 0)], [])
        self.assert_stuck([("!b", (3, (), (), NONE, NONE), 0)], service, BOTH_DIRECT, partner)

    def test_the_service_may_be_stuck_after_its_own_choice(self):
        service = Service([], ["x"], 3, [(0, "tau", 1), (0, "tau", 2), (1, "!x", 1)], [])
        partner = Partner(1, [(0, "?x", 0)], [0])
        self.assert_stuck([("tau", (2, (), (), NONE, NONE), 0)], service, BOTH_DIRECT, partner)

    def test_a_nondeterministic_partner(self):
        asked = [(0, "!ask", 1), (0, "!ask", 2), (1, "?reply", 0)]
        run = [("!ask", (1, (), (), NONE, NONE), 2)]
        self.assert_stuck(run, ask_reply(), BOTH_DIRECT, Partner(3, asked, [0, 2]))
        self.assert_good(ask_reply(), BOTH_DIRECT, Partner(3, asked + [(2, "?reply", 0)], [0]))

    def test_a_nondeterministic_service(self):
        service = Service(["a"], ["x", "y"], 4, [(0, "?a", 1), (0, "?a", 2), (1, "!x", 3), (2, "!y", 3)], [3])
        both = Partner(3, [(0, "!a", 1), (1, "?x", 2), (1, "?y", 2)], [2])
        one = Partner(3, [(0, "!a", 1), (1, "?x", 2)], [2])
        self.assert_good(service, BOTH_DIRECT, both)
        self.assert_stuck([("!a", (2, (), (), NONE, NONE), 1)], service, BOTH_DIRECT, one)

    def test_an_endless_exchange_is_no_harm(self):
        service = Service(["a"], ["x"], 1, [(0, "?a", 0), (0, "!x", 0)], [])
        self.assert_good(service, BOTH_DIRECT, Partner(1, [(0, "!a", 0)], []))
        ticking = Service([], [], 1, [(0, "tau", 0)], [])
        self.assert_good(ticking, BOTH_DIRECT, Partner(1, [], []))

    def test_faults_cannot_be_relied_on(self):
        # Losing the message would end the exchange well, but it need not be lost.
        service = Service(["a"], [], 1, [], [0])
        partner = Partner(2, [(0, "!a", 1)], [0, 1])
        run = [("!a", (0, ("a",), (), (1, 0), NONE), 1)]
        self.assert_stuck(run, service, Links(row(1, 1), direct()), partner)

    def test_doubles(self):
        service = Service(["a"], [], 2, [(0, "?a", 1)], [1])
        partner = Partner(2, [(0, "!a", 1)], [1])
        self.assert_good(service, Links(row(2), direct()), partner)
        doubled = [
            ("!a", (0, ("a",), (), NONE, (1, 0)), 1),
            ("double a to service", (0, ("a", "a"), (), NONE, NONE), 1),
            ("service ?a", (1, ("a",), (), NONE, NONE), 1),
        ]
        self.assert_stuck(doubled, service, Links(bag(2, 0, 1), direct()), partner)

    def test_a_large_partner(self):
        partner = Partner(300, [(k, label, (k + 1) % 300) for k in range(300) for label in ("!a", "!b", "!c")], [0])
        service, links = with_120_states()
        self.assert_good(service, links, partner)

    def test_too_many_system_states(self):
        service, links = with_121_states()
        partner = Partner(1, [], [])
        for function, more in ((stuck_run, ()), (is_good, ()), (is_stuck_run, ([],))):
            self.assertEqual(reason_of(function, service, links, partner, *more), "too many system states")


class IsStuckRunTest(unittest.TestCase):
    def assert_not(self, run, partner=None):
        self.assertIs(is_stuck_run(ask_reply(), example_links(), partner or impatient(), run), False)

    def assert_right(self, run, partner=None):
        self.assertIs(is_stuck_run(ask_reply(), example_links(), partner or impatient(), run), True)

    def test_right_runs(self):
        self.assert_right(LOST_RUN)
        around = [
            ("!ask", ASKED, 1), ("service ?ask", BUSY, 1), ("?reply", IDLE, 0),
        ]
        self.assert_right(around + LOST_RUN)
        self.assert_right(around + around + LOST_RUN)

    def test_a_triple_left_out(self):
        self.assert_not(LOST_RUN[:1])
        self.assert_not(LOST_RUN[1:])
        self.assert_not([])

    def test_a_triple_put_in(self):
        self.assert_not(LOST_RUN + LOST_RUN[1:])
        self.assert_not(LOST_RUN[:1] + LOST_RUN)
        self.assert_not(LOST_RUN + [("!ask", ASKED_LATER, 1)])

    def test_a_triple_changed(self):
        lost = "lose ask to service"
        for wrong in (
            ("!ask", IDLE_LATER, 1), ("tau", IDLE_LATER, 1), ("lose ask to partner", IDLE_LATER, 1),
            ("lose reply to service", IDLE_LATER, 1), ("ask", IDLE_LATER, 1), ("", IDLE_LATER, 1),
            (lost, IDLE, 1), (lost, ASKED_LATER, 1), (lost, (2, (), (), NONE, NONE), 1), (lost, IDLE_LATER, 0),
            (lost, IDLE_LATER, 2), (lost, IDLE_LATER, -1), (lost, (0, (), (), (0, 1), NONE), 1),
        ):
            with self.subTest(triple=wrong):
                self.assert_not(LOST_RUN[:1] + [wrong])
        for wrong in (
            ("!ask", ASKED, 0), ("?ask", ASKED, 1), ("service ?ask", ASKED, 1), ("!ask", BUSY, 1), ("!ask", IDLE, 1),
        ):
            with self.subTest(triple=wrong):
                self.assert_not([wrong] + LOST_RUN[1:])

    def test_an_action_that_the_partner_does_not_have(self):
        silent = Partner(2, [(0, "!ask", 1)], [0])
        stuck = [("!ask", ASKED, 1), ("service ?ask", BUSY, 1)]
        self.assert_right(stuck, silent)
        self.assert_not(stuck + [("?reply", IDLE, 0)], silent)

    def test_a_run_that_ends_where_it_is_not_stuck(self):
        self.assert_not([("!ask", ASKED, 1), ("service ?ask", BUSY, 1)])
        self.assert_not(LOST_RUN, patient())
        self.assert_not([("!ask", ASKED, 1), ("service ?ask", BUSY, 1), ("?reply", IDLE, 0)])

    def test_the_empty_run(self):
        self.assert_right([], Partner(1, [], []))
        self.assert_not([], Partner(1, [], [0]))
        self.assert_not([], Partner(1, [(0, "!ask", 0)], []))

    def test_not_past_a_stuck_configuration_by_no_action(self):
        self.assert_not([("!ask", ASKED, 0)], Partner(1, [], []))

    def test_one_step_of_several_with_the_same_label(self):
        partner = Partner(3, [(0, "!ask", 1), (0, "!ask", 2), (1, "!ask", 1), (1, "?reply", 0)], [0])
        self.assert_right([("!ask", ASKED, 2), ("lose ask to service", IDLE_LATER, 2)], partner)
        self.assert_not([("!ask", ASKED, 1), ("lose ask to service", IDLE_LATER, 1)], partner)
        self.assert_not([("!ask", ASKED, 2), ("lose ask to service", IDLE_LATER, 1)], partner)


class FaultTableTest(unittest.TestCase):
    def test_losses_on_both_links(self):
        for times in range(5):
            expected = [[i + j <= times for j in range(3)] for i in range(3)]
            with self.subTest(times=times):
                self.assertEqual(fault_table(ask_reply(), Links(row(1), row(1)), patient_of(times)), expected)

    def test_losses_to_the_service(self):
        service = Service(["a"], [], 3, [(0, "?a", 1), (1, "?a", 2), (2, "?a", 2)], [0, 1, 2])
        for needed, expected in ((2, [True, False, False]), (1, [True, True, False]), (0, [True, True, True])):
            taker = Service(["a"], [], 3, service.transitions, list(range(needed, 3)))
            partner = Partner(3, [(0, "!a", 1), (1, "!a", 2)], [2])
            with self.subTest(needed=needed):
                table = fault_table(taker, Links(row(1), row(1)), partner)
                self.assertEqual(table, [[good] * 3 for good in expected])

    def test_losses_to_the_partner(self):
        service = Service([], ["x"], 3, [(0, "!x", 1), (1, "!x", 2)], [2])
        # This partner must have two messages, or one, or none, to be finished.
        for needed, row_of in ((2, [True, False, False]), (1, [True, True, False]), (0, [True, True, True])):
            partner = Partner(3, [(0, "?x", 1), (1, "?x", 2)], list(range(needed, 3)))
            with self.subTest(needed=needed):
                self.assertEqual(fault_table(service, Links(row(1), row(1)), partner), [row_of] * 3)

    def test_the_losses_of_the_links_do_not_matter(self):
        for i in range(3):
            for j in range(3):
                table = fault_table(ask_reply(), Links(row(1, i), row(1, j)), patient_of(1))
                self.assertEqual(table, [[True, True, False], [True, False, False], [False, False, False]])

    def test_the_order_stays(self):
        service = Service(["a", "b"], [], 3, [(0, "?a", 1), (1, "?b", 2)], [2])
        crossed = Service(["a", "b"], [], 3, [(0, "?b", 1), (1, "?a", 2)], [2])
        partner = Partner(3, [(0, "!a", 1), (1, "!b", 2)], [2])
        only_without_loss = [[True] * 3, [False] * 3, [False] * 3]
        self.assertEqual(fault_table(service, Links(row(2), row(1)), partner), only_without_loss)
        self.assertEqual(fault_table(service, Links(bag(2), row(1)), partner), only_without_loss)
        self.assertEqual(fault_table(crossed, Links(bag(2), row(1)), partner), only_without_loss)
        self.assertEqual(fault_table(crossed, Links(row(2), row(1)), partner), [[False] * 3] * 3)

    def test_the_order_of_the_link_to_the_partner_stays(self):
        service = Service([], ["x", "y"], 3, [(0, "!x", 1), (1, "!y", 2)], [2])
        partner = Partner(3, [(0, "?y", 1), (1, "?x", 2)], [2])
        self.assertEqual(fault_table(service, Links(row(1), bag(2)), partner), [[True, False, False]] * 3)
        self.assertEqual(fault_table(service, Links(row(1), row(2)), partner), [[False] * 3] * 3)

    def test_the_capacities_stay(self):
        taker = Service(["a", "b"], [], 3, [(0, "?b", 1), (1, "?a", 2)], [2])
        sender = Partner(3, [(0, "!a", 1), (1, "!b", 2)], [2])
        self.assertIs(fault_table(taker, Links(bag(2), row(1)), sender)[0][0], True)
        self.assertIs(fault_table(taker, Links(bag(1), row(2)), sender)[0][0], False)
        giver = Service([], ["x", "y"], 3, [(0, "!x", 1), (1, "!y", 2)], [2])
        receiver = Partner(3, [(0, "?y", 1), (1, "?x", 2)], [2])
        self.assertIs(fault_table(giver, Links(row(1), bag(2)), receiver)[0][0], True)
        self.assertIs(fault_table(giver, Links(row(2), bag(1)), receiver)[0][0], False)

    def test_the_doubles_stay(self):
        service = Service(["a"], [], 2, [(0, "?a", 1)], [1])
        partner = Partner(2, [(0, "!a", 1)], [1])
        self.assertIs(fault_table(service, Links(row(2), row(1)), partner)[0][0], True)
        self.assertIs(fault_table(service, Links(row(2, 0, 1), row(1)), partner)[0][0], False)
        sender = Service([], ["x"], 2, [(0, "!x", 1)], [1])
        receiver = Partner(2, [(0, "?x", 1)], [1])
        self.assertIs(fault_table(sender, Links(row(1), row(2)), receiver)[0][0], True)
        self.assertIs(fault_table(sender, Links(row(1), row(2, 0, 1)), receiver)[0][0], False)

    def test_bools_in_lists_of_their_own(self):
        table = fault_table(ask_reply(), Links(row(1), row(1)), patient())
        self.assertEqual([len(line) for line in table], [3, 3, 3])
        self.assertTrue(all(type(item) is bool for line in table for item in line))
        table[0][0] = None
        self.assertEqual([line[0] for line in table[1:]].count(None), 0)

    def test_direct_link(self):
        partner = Partner(1, [], [])
        for links in (Links(direct(), row(1)), Links(row(1), direct()), Links(direct(), direct())):
            self.assertEqual(reason_of(fault_table, ask_reply(), links, partner), "direct link")

    def test_direct_link_ahead_of_too_many_system_states(self):
        ring = [(k, "tau", (k + 1) % 12) for k in range(12)]
        service = Service(["a", "b", "c"], [], 12, ring, [0])
        partner = Partner(1, [], [])
        for links in (Links(row(2), direct()), Links(row(2, 1, 1), direct())):
            self.assertEqual(reason_of(is_good, service, links, partner), "too many system states")
            self.assertEqual(reason_of(fault_table, service, links, partner), "direct link")
        self.assertEqual(reason_of(fault_table, service, Links(row(2), row(1)), partner), "too many system states")

    def test_too_many_system_states_for_any_of_the_nine(self):
        # Without losses there are 12 * 2 * 2 = 48 of them, with two losses on one side 12 * 6 * 2 = 144.
        transitions = [(k, "tau", (k + 1) % 12) for k in range(12)] + [(0, "!x", 0)]
        service = Service(["a"], ["x"], 12, transitions, [0])
        links = Links(row(1), row(1))
        partner = Partner(1, [(0, "!a", 0), (0, "?x", 0)], [0])
        self.assertEqual(len(system_states(service, links)), 48)
        self.assertEqual(reason_of(fault_table, service, links, partner), "too many system states")
        ring = [(k, "tau", (k + 1) % 6) for k in range(6)]
        self.assertEqual(len(system_states(Service(["a"], [], 6, ring, [0]), Links(row(1, 2), row(1, 2)))), 36)
        self.assertIsNone(reason_of(fault_table, Service(["a"], [], 6, ring, [0]), links, partner))

    def test_too_many_system_states_only_with_all_losses(self):
        # Two losses on both sides are needed to have more than 120.
        service = Service(["a"], ["x"], 4, [(0, "!x", 1), (1, "?a", 2), (2, "!x", 3), (3, "?a", 0)], [0])
        partner = Partner(1, [], [0])
        counts = {
            (i, j): reason_of(system_states, service, Links(row(1, i), row(1, j)))
            for i in range(3) for j in range(3)
        }
        self.assertEqual(
            {pair for pair, reason in counts.items() if reason is not None}, {(2, 2)},
        )
        self.assertEqual(reason_of(fault_table, service, Links(row(1), row(1)), partner), "too many system states")


class OwnershipTest(unittest.TestCase):
    def test_arguments_stay_and_answers_are_new(self):
        service, links, partner = ask_reply(), example_links(), impatient()
        expected = [fields_of_service(ask_reply()), fields_of_links(example_links()), fields_of_partner(impatient())]
        run = stuck_run(service, links, partner)
        given = list(run)
        is_stuck_run(service, links, partner, given)
        self.assertEqual(given, run)
        run.clear()
        self.assertEqual(stuck_run(service, links, partner), LOST_RUN)
        is_good(service, links, partner)
        lossy = Links(row(1, 1), row(1, 2, 1))
        fault_table(service, lossy, partner).clear()
        self.assertEqual(len(fault_table(service, lossy, partner)), 3)
        self.assertEqual(fields_of_links(lossy), [(1, "row", 1, 0), (1, "row", 2, 1)])
        found = [fields_of_service(service), fields_of_links(links), fields_of_partner(partner)]
        self.assertEqual(found, expected)


def patient_of(times):
    """A partner that asks again so often, and needs the reply to one of its messages."""
    states = times + 3
    asks = [(k, "!ask", k + 1) for k in range(times + 1)]
    replies = [(k, "?reply", times + 2) for k in range(1, times + 2)]
    late = [(times + 2, "?reply", times + 2)]
    return Partner(states, asks + replies + late, [times + 2])


if __name__ == "__main__":
    unittest.main()
