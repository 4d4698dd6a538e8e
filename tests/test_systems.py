"""Tests of allwhotalk.systems."""

import unittest

import reference
from examples import (
    ask_reply, bag, direct, example_links, fields_of_links, fields_of_service, reason_of, row,
    with_120_states, with_121_states,
)
from allwhotalk.machines import Links, Service
from allwhotalk.systems import faults, is_finished, is_waiting, results, service_moves, system_states

NONE = (0, 0)


def state(s, a=(), b=(), losses=NONE, doubles=NONE):
    return (s, tuple(a), tuple(b), losses, doubles)


def chatty():
    """A service that takes and gives several messages, to more than one state."""
    transitions = [
        (0, "!x", 0), (0, "!x", 2), (0, "!y", 1), (0, "?a", 1), (0, "?a", 2), (0, "?b", 0),
        (1, "?a", 0), (1, "tau", 0), (1, "tau", 1), (2, "!y", 2),
    ]
    return Service(["a", "b"], ["x", "y"], 3, transitions, [0, 2])


class SystemStatesTest(unittest.TestCase):
    def test_direct_links(self):
        links = Links(direct(), direct())
        self.assertEqual(system_states(ask_reply(), links), [state(0), state(1)])

    def test_states_that_nothing_leads_to_are_left_out(self):
        service = Service(["a"], ["x"], 4, [(0, "?a", 2), (1, "tau", 0), (3, "!x", 1)], [])
        self.assertEqual(system_states(service, Links(direct(), direct())), [state(0), state(2)])

    def test_no_transitions(self):
        service = Service([], [], 1, [], [])
        self.assertEqual(system_states(service, Links(row(2, 2, 2), bag(1, 1, 1))), [
            state(0, losses=(2, 1), doubles=(2, 1)),
        ])

    def test_the_example(self):
        expected = [
            state(s, a, losses=losses) for s in (0, 1) for a in ((), ("ask",)) for losses in ((0, 0), (1, 0))
        ]
        self.assertEqual(system_states(ask_reply(), example_links()), expected)

    def test_a_row_keeps_the_order_and_a_bag_does_not(self):
        service = Service(["a", "b"], [], 1, [], [])
        in_row = [(), ("a",), ("a", "a"), ("a", "b"), ("b",), ("b", "a"), ("b", "b")]
        in_bag = [(), ("a",), ("a", "a"), ("a", "b"), ("b",), ("b", "b")]
        self.assertEqual(system_states(service, Links(row(2), direct())), [state(0, a) for a in in_row])
        self.assertEqual(system_states(service, Links(bag(2), direct())), [state(0, a) for a in in_bag])

    def test_capacity_1(self):
        service = Service(["a", "b"], [], 1, [], [])
        expected = [state(0), state(0, ["a"]), state(0, ["b"])]
        for link in (row(1), bag(1)):
            self.assertEqual(system_states(service, Links(link, direct())), expected)

    def test_link_to_the_partner(self):
        service = Service([], ["x", "y"], 3, [(0, "!y", 1), (1, "!x", 2)], [])
        in_row = [state(0), state(1), state(1, b="y"), state(2), state(2, b="x"), state(2, b="yx")]
        in_bag = [
            state(0), state(1), state(1, b="y"), state(2), state(2, b="x"), state(2, b="xy"), state(2, b="y"),
        ]
        self.assertEqual(system_states(service, Links(direct(), row(2))), in_row)
        self.assertEqual(system_states(service, Links(direct(), bag(2))), in_bag)

    def test_a_full_link_to_the_partner_stops_the_service(self):
        service = Service([], ["x", "y"], 3, [(0, "!y", 1), (1, "!x", 2)], [])
        self.assertEqual(system_states(service, Links(direct(), row(1))), [
            state(0), state(1), state(1, b="y"), state(2), state(2, b="x"),
        ])

    def test_losses(self):
        service = Service([], ["x"], 2, [(0, "!x", 1)], [])
        self.assertEqual(system_states(service, Links(direct(), row(1, 2))), [
            state(0, losses=(0, 2)), state(1, losses=(0, 1)), state(1, losses=(0, 2)),
            state(1, b="x", losses=(0, 2)),
        ])

    def test_doubles(self):
        service = Service([], ["x"], 2, [(0, "!x", 1)], [])
        links = Links(direct(), row(2, 0, 1))
        self.assertEqual(system_states(service, links), [
            state(0, doubles=(0, 1)), state(1, doubles=NONE), state(1, doubles=(0, 1)),
            state(1, b="x", doubles=NONE), state(1, b="x", doubles=(0, 1)), state(1, b="xx", doubles=NONE),
        ])
        self.assertEqual(len(system_states(service, Links(direct(), row(1, 0, 1)))), 3)

    def test_losses_and_doubles_stand_for_both_links_in_their_order(self):
        service = Service(["a"], ["x"], 1, [], [])
        links = Links(row(1, 1, 2), row(1, 2, 0))
        self.assertEqual(system_states(service, links)[0], state(0, losses=(0, 2), doubles=(2, 0)))
        self.assertIn(state(0, losses=(1, 2), doubles=(2, 0)), system_states(service, links))

    def test_ascending_as_tuples(self):
        for links in (Links(bag(2), row(1)), Links(row(1, 1, 1), direct()), Links(direct(), bag(2, 1))):
            found = system_states(chatty(), links)
            self.assertEqual(found, sorted(set(found)))
            self.assertEqual(set(found), reference.reachable(chatty(), links))

    def test_120_are_returned(self):
        service, links = with_120_states()
        found = system_states(service, links)
        self.assertEqual(len(found), 120)
        self.assertEqual(found, sorted(reference.reachable(service, links)))

    def test_121_are_refused(self):
        service, links = with_121_states()
        self.assertEqual(len(reference.reachable(service, links)), 121)
        first = reference.first_state(links)
        self.assertEqual(reason_of(system_states, service, links), "too many system states")
        self.assertEqual(reason_of(results, service, links, first, "!a"), "too many system states")
        for function in (service_moves, faults, is_waiting, is_finished):
            self.assertEqual(reason_of(function, service, links, first), "too many system states")

    def test_far_too_many_are_refused(self):
        labels = ["?a", "?b", "?c", "!x", "!y"]
        transitions = [(s, labels[k], (s + k + 1) % 12) for s in range(12) for k in range(5)]
        service = Service(["a", "b", "c"], ["x", "y", "z"], 12, transitions, [])
        links = Links(row(2, 2, 2), row(2, 2, 2))
        self.assertEqual(reason_of(system_states, service, links), "too many system states")


class ResultsTest(unittest.TestCase):
    def test_sending_over_a_direct_link(self):
        links = Links(direct(), direct())
        self.assertEqual(results(chatty(), links, state(0), "!a"), [state(1), state(2)])
        self.assertEqual(results(chatty(), links, state(0), "!b"), [state(0)])
        self.assertEqual(results(chatty(), links, state(1), "!a"), [state(0)])
        self.assertEqual(results(chatty(), links, state(1), "!b"), [])
        self.assertEqual(results(chatty(), links, state(2), "!a"), [])

    def test_receiving_over_a_direct_link(self):
        links = Links(direct(), direct())
        self.assertEqual(results(chatty(), links, state(0), "?x"), [state(0), state(2)])
        self.assertEqual(results(chatty(), links, state(0), "?y"), [state(1)])
        self.assertEqual(results(chatty(), links, state(1), "?x"), [])
        self.assertEqual(results(chatty(), links, state(2), "?y"), [state(2)])

    def test_a_direct_link_leaves_the_other_one(self):
        links = Links(row(1, 1, 2), direct())
        here = state(0, "b", (), (1, 0), (2, 0))
        self.assertEqual(results(chatty(), links, here, "?x"), [here, state(2, "b", (), (1, 0), (2, 0))])
        links = Links(direct(), bag(1, 2, 1))
        here = state(0, (), "x", (0, 2), (0, 1))
        self.assertEqual(results(chatty(), links, here, "!a"), [
            state(1, (), "x", (0, 2), (0, 1)), state(2, (), "x", (0, 2), (0, 1)),
        ])

    def test_sending_into_a_row(self):
        links = Links(row(2), direct())
        self.assertEqual(results(chatty(), links, state(0), "!a"), [state(0, "a")])
        self.assertEqual(results(chatty(), links, state(2, "b"), "!a"), [state(2, "ba")])
        self.assertEqual(results(chatty(), links, state(2, "b"), "!b"), [state(2, "bb")])
        self.assertEqual(results(chatty(), links, state(2, "ba"), "!a"), [])
        links = Links(row(1), direct())
        self.assertEqual(results(chatty(), links, state(0), "!b"), [state(0, "b")])
        self.assertEqual(results(chatty(), links, state(0, "b"), "!a"), [])

    def test_sending_into_a_bag(self):
        links = Links(bag(2), direct())
        self.assertEqual(results(chatty(), links, state(0), "!a"), [state(0, "a")])
        self.assertEqual(results(chatty(), links, state(0, "b"), "!a"), [state(0, "ab")])
        self.assertEqual(results(chatty(), links, state(0, "a"), "!b"), [state(0, "ab")])
        self.assertEqual(results(chatty(), links, state(0, "a"), "!a"), [state(0, "aa")])
        self.assertEqual(results(chatty(), links, state(0, "ab"), "!a"), [])

    def test_sending_uses_up_no_fault(self):
        links = Links(row(2, 1, 1), direct())
        here = state(0, "b", (), (1, 0), (1, 0))
        self.assertEqual(results(chatty(), links, here, "!a"), [state(0, "ba", (), (1, 0), (1, 0))])

    def test_a_message_can_be_put_in_where_the_service_never_takes_it(self):
        service = Service(["a"], [], 1, [], [])
        self.assertEqual(results(service, Links(row(1), direct()), state(0), "!a"), [state(0, "a")])
        self.assertEqual(results(service, Links(direct(), direct()), state(0), "!a"), [])

    def test_receiving_from_a_row(self):
        links = Links(direct(), row(2))
        self.assertEqual(results(chatty(), links, state(0), "?x"), [])
        self.assertEqual(results(chatty(), links, state(1, b="xy"), "?x"), [state(1, b="y")])
        self.assertEqual(results(chatty(), links, state(1, b="xy"), "?y"), [])
        self.assertEqual(results(chatty(), links, state(2, b="yy"), "?y"), [state(2, b="y")])
        self.assertEqual(results(chatty(), links, state(2, b="x"), "?x"), [state(2)])

    def test_receiving_from_a_bag(self):
        links = Links(direct(), bag(2))
        self.assertEqual(results(chatty(), links, state(0), "?x"), [])
        self.assertEqual(results(chatty(), links, state(1, b="xy"), "?x"), [state(1, b="y")])
        self.assertEqual(results(chatty(), links, state(1, b="xy"), "?y"), [state(1, b="x")])
        self.assertEqual(results(chatty(), links, state(1, b="yy"), "?y"), [state(1, b="y")])
        self.assertEqual(results(chatty(), links, state(1, b="yy"), "?x"), [])

    def test_the_service_need_not_be_there_to_send(self):
        # What lies in the link was sent before; the service's transitions no longer matter.
        links = Links(direct(), row(1))
        self.assertEqual(results(chatty(), links, state(1, b="x"), "?x"), [state(1)])

    def test_ascending_each_once(self):
        for links in (Links(direct(), direct()), Links(bag(2), direct()), Links(direct(), bag(2, 1, 1))):
            for here in system_states(chatty(), links):
                for label in ("!a", "!b", "?x", "?y"):
                    found = results(chatty(), links, here, label)
                    self.assertEqual(found, sorted(reference.results(chatty(), links, here, label)))


class MovesTest(unittest.TestCase):
    def test_internal_transitions(self):
        links = Links(direct(), direct())
        self.assertEqual(service_moves(chatty(), links, state(1)), [("tau", state(0)), ("tau", state(1))])
        self.assertEqual(service_moves(chatty(), links, state(0)), [])
        self.assertEqual(service_moves(chatty(), links, state(2)), [])

    def test_taking_from_a_row(self):
        links = Links(row(2), direct())
        self.assertEqual(service_moves(chatty(), links, state(0)), [])
        self.assertEqual(service_moves(chatty(), links, state(0, "ab")), [
            ("service ?a", state(1, "b")), ("service ?a", state(2, "b")),
        ])
        self.assertEqual(service_moves(chatty(), links, state(0, "ba")), [("service ?b", state(0, "a"))])
        self.assertEqual(service_moves(chatty(), links, state(1, "ba")), [
            ("tau", state(0, "ba")), ("tau", state(1, "ba")),
        ])
        self.assertEqual(service_moves(chatty(), links, state(2, "ab")), [])

    def test_taking_from_a_bag(self):
        links = Links(bag(2), direct())
        self.assertEqual(service_moves(chatty(), links, state(0, "ab")), [
            ("service ?a", state(1, "b")), ("service ?a", state(2, "b")), ("service ?b", state(0, "a")),
        ])
        self.assertEqual(service_moves(chatty(), links, state(1, "ab")), [
            ("service ?a", state(0, "b")), ("tau", state(0, "ab")), ("tau", state(1, "ab")),
        ])
        self.assertEqual(service_moves(chatty(), links, state(1, "aa")), [
            ("service ?a", state(0, "a")), ("tau", state(0, "aa")), ("tau", state(1, "aa")),
        ])

    def test_putting_into_a_row(self):
        links = Links(direct(), row(2))
        self.assertEqual(service_moves(chatty(), links, state(0, b="y")), [
            ("service !x", state(0, b="yx")), ("service !x", state(2, b="yx")), ("service !y", state(1, b="yy")),
        ])
        self.assertEqual(service_moves(chatty(), links, state(0, b="yx")), [])

    def test_putting_into_a_bag(self):
        links = Links(direct(), bag(2))
        self.assertEqual(service_moves(chatty(), links, state(0, b="y")), [
            ("service !x", state(0, b="xy")), ("service !x", state(2, b="xy")), ("service !y", state(1, b="yy")),
        ])
        self.assertEqual(service_moves(chatty(), links, state(2, b="x")), [("service !y", state(2, b="xy"))])
        self.assertEqual(service_moves(chatty(), links, state(2, b="xy")), [])

    def test_putting_into_a_link_for_one(self):
        links = Links(direct(), row(1))
        self.assertEqual(service_moves(chatty(), links, state(2)), [("service !y", state(2, b="y"))])
        self.assertEqual(service_moves(chatty(), links, state(2, b="y")), [])

    def test_both_links(self):
        links = Links(row(1, 1, 0), bag(1, 0, 2))
        left = {"losses": (1, 0), "doubles": (0, 2)}
        self.assertEqual(service_moves(chatty(), links, state(0, "a", **left)), [
            ("service !x", state(0, "a", "x", **left)),
            ("service !x", state(2, "a", "x", **left)),
            ("service !y", state(1, "a", "y", **left)),
            ("service ?a", state(1, **left)),
            ("service ?a", state(2, **left)),
        ])

    def test_a_message_called_tau(self):
        service = Service(["tau"], [], 2, [(0, "?tau", 1), (1, "tau", 0)], [])
        links = Links(row(1), direct())
        self.assertEqual(service_moves(service, links, state(0, ["tau"])), [("service ?tau", state(1))])
        self.assertEqual(service_moves(service, links, state(1)), [("tau", state(0))])
        self.assertEqual(service_moves(service, links, state(0)), [])


class FaultsTest(unittest.TestCase):
    def setUp(self):
        self.service = Service(["a", "b"], ["x", "y"], 1, [(0, "!x", 0), (0, "!y", 0)], [0])
        self.quiet = Service(["a", "b"], [], 1, [], [0])

    def test_none_over_direct_links_and_empty_ones(self):
        self.assertEqual(faults(chatty(), Links(direct(), direct()), state(0)), [])
        here = state(0, losses=(2, 0), doubles=(2, 0))
        self.assertEqual(faults(self.quiet, Links(row(2, 2, 2), direct()), here), [])

    def test_none_without_losses_and_doubles(self):
        links = Links(row(2), direct())
        self.assertEqual(faults(self.quiet, links, state(0, "ab")), [])
        links = Links(row(2, 1, 1), direct())
        self.assertEqual(faults(self.quiet, links, state(0, "a")), [])

    def test_a_loss_at_each_place_of_a_row(self):
        links = Links(row(2, 2), direct())
        self.assertEqual(faults(self.quiet, links, state(0, "ba", losses=(2, 0))), [
            ("lose a to service", state(0, "b", losses=(1, 0))),
            ("lose b to service", state(0, "a", losses=(1, 0))),
        ])
        self.assertEqual(faults(self.quiet, links, state(0, "aa", losses=(1, 0))), [
            ("lose a to service", state(0, "a")),
        ])
        self.assertEqual(faults(self.quiet, links, state(0, "ab")), [])

    def test_a_loss_of_a_bag(self):
        links = Links(bag(2, 2), direct())
        self.assertEqual(faults(self.quiet, links, state(0, "ab", losses=(2, 0))), [
            ("lose a to service", state(0, "b", losses=(1, 0))),
            ("lose b to service", state(0, "a", losses=(1, 0))),
        ])
        self.assertEqual(faults(self.quiet, links, state(0, "bb", losses=(2, 0))), [
            ("lose b to service", state(0, "b", losses=(1, 0))),
        ])

    def test_doubles_of_a_row_and_a_bag(self):
        for link in (row(2, 0, 2), bag(2, 0, 2)):
            links = Links(link, direct())
            self.assertEqual(faults(self.quiet, links, state(0, "b", doubles=(2, 0))), [
                ("double b to service", state(0, "bb", doubles=(1, 0))),
            ])
            self.assertEqual(faults(self.quiet, links, state(0, "b", doubles=(1, 0))), [
                ("double b to service", state(0, "bb")),
            ])
            self.assertEqual(faults(self.quiet, links, state(0, "b")), [])

    def test_no_double_in_a_full_link(self):
        links = Links(row(2, 0, 2), direct())
        self.assertEqual(faults(self.quiet, links, state(0, "ba", doubles=(2, 0))), [])
        links = Links(bag(1, 1, 1), direct())
        self.assertEqual(faults(self.quiet, links, state(0, "b", (), (1, 0), (1, 0))), [
            ("lose b to service", state(0, (), (), (0, 0), (1, 0))),
        ])

    def test_link_to_the_partner(self):
        service = Service([], ["x", "y"], 1, [(0, "!x", 0), (0, "!y", 0)], [])
        links = Links(direct(), row(2, 1, 1))
        self.assertEqual(faults(service, links, state(0, b="y", losses=(0, 1), doubles=(0, 1))), [
            ("double y to partner", state(0, b="yy", losses=(0, 1))),
            ("lose y to partner", state(0, doubles=(0, 1))),
        ])
        self.assertEqual(faults(service, links, state(0, b="yx", losses=(0, 1), doubles=(0, 1))), [
            ("lose x to partner", state(0, b="y", doubles=(0, 1))),
            ("lose y to partner", state(0, b="x", doubles=(0, 1))),
        ])

    def test_each_link_has_its_own_losses_and_doubles(self):
        links = Links(row(1, 1, 0), row(1, 0, 1))
        here = state(0, "a", "x", (1, 0), (0, 1))
        self.assertEqual(faults(self.service, links, here), [
            ("lose a to service", state(0, (), "x", (0, 0), (0, 1))),
        ])
        links = Links(row(1, 1), row(1, 2))
        self.assertEqual(faults(self.service, links, state(0, "a", "x", (1, 2))), [
            ("lose a to service", state(0, (), "x", (0, 2))),
            ("lose x to partner", state(0, "a", (), (1, 1))),
        ])
        self.assertEqual(faults(self.service, links, state(0, "a", "x", (0, 1))), [
            ("lose x to partner", state(0, "a")),
        ])


class WaitingTest(unittest.TestCase):
    def test_waiting(self):
        links = Links(direct(), direct())
        self.assertIs(is_waiting(chatty(), links, state(0)), True)
        self.assertIs(is_waiting(chatty(), links, state(1)), False)
        self.assertIs(is_waiting(chatty(), Links(row(1), direct()), state(0)), True)
        self.assertIs(is_waiting(chatty(), Links(row(1), direct()), state(0, "a")), False)
        self.assertIs(is_waiting(chatty(), Links(row(1), direct()), state(2, "a")), True)
        self.assertIs(is_waiting(chatty(), Links(direct(), row(1)), state(2)), False)
        self.assertIs(is_waiting(chatty(), Links(direct(), row(1)), state(2, b="y")), True)

    def test_an_internal_step_to_itself_is_a_move(self):
        service = Service([], [], 1, [(0, "tau", 0)], [])
        self.assertIs(is_waiting(service, Links(direct(), direct()), state(0)), False)

    def test_faults_do_not_count(self):
        links = Links(row(2, 1, 1), direct())
        here = state(2, "a", (), (1, 0), (1, 0))
        self.assertEqual(len(faults(chatty(), links, here)), 2)
        self.assertIs(is_waiting(chatty(), links, here), True)

    def test_finished(self):
        links = Links(direct(), direct())
        self.assertIs(is_finished(chatty(), links, state(0)), True)
        self.assertIs(is_finished(chatty(), links, state(1)), False)
        self.assertIs(is_finished(chatty(), links, state(2)), True)
        links = Links(row(1, 1), direct())
        self.assertIs(is_finished(chatty(), links, state(0, losses=(1, 0))), True)
        self.assertIs(is_finished(chatty(), links, state(0)), True)
        self.assertIs(is_finished(chatty(), links, state(0, "a")), False)
        links = Links(direct(), row(1))
        self.assertIs(is_finished(chatty(), links, state(2)), True)
        self.assertIs(is_finished(chatty(), links, state(2, b="y")), False)

    def test_finished_need_not_be_waiting(self):
        service = Service([], [], 1, [(0, "tau", 0)], [0])
        self.assertIs(is_finished(service, Links(direct(), direct()), state(0)), True)


class OwnershipTest(unittest.TestCase):
    def test_arguments_stay_and_answers_are_new(self):
        service, links = chatty(), Links(row(1, 1, 0), direct())
        before = (fields_of_service(chatty()), fields_of_links(links))
        here = state(0, "a", (), (1, 0))
        calls = [
            (system_states, ()), (results, (here, "?x")), (service_moves, (here,)), (faults, (here,)),
        ]
        for function, more in calls:
            with self.subTest(function=function.__name__):
                first = function(service, links, *more)
                kept = list(first)
                self.assertGreater(len(first), 0)
                first.clear()
                self.assertEqual(function(service, links, *more), kept)
        is_waiting(service, links, here)
        is_finished(service, links, here)
        self.assertEqual((fields_of_service(service), fields_of_links(links)), before)


if __name__ == "__main__":
    unittest.main()
