"""Tests of allwhotalk.machines."""

import unittest

from allwhotalk.errors import TalkError, TextError
from allwhotalk.machines import Link, Links, Partner, Service
from allwhotalk.machines import dual, is_partner_for, labels_of, together


def fields(machine):
    """All that a service or a partner tells, as it stands in its fields."""
    common = (machine.states, machine.transitions, machine.final)
    if isinstance(machine, Service):
        return (machine.inputs, machine.outputs) + common
    return common


def ask_reply():
    return Service(["ask"], ["reply"], 2, [(0, "?ask", 1), (1, "!reply", 0)], [0])


def rows(many, states, label="tau"):
    """So many different transitions between so many states."""
    found = [(k // states, label, k % states) for k in range(many)]
    assert len(set(found)) == many and found[-1][0] < states
    return found


class Reasons(unittest.TestCase):
    def assert_reason(self, reason, function, *arguments):
        with self.assertRaises(TalkError) as caught:
            function(*arguments)
        self.assertNotIsInstance(caught.exception, TextError)
        self.assertEqual(caught.exception.reason, reason)


class ServiceTest(Reasons):
    def assert_no_service(self, *arguments):
        self.assert_reason("no service", Service, *arguments)

    def test_fields(self):
        service = Service(["a", "b"], ["c"], 3, [(0, "?a", 1), (1, "tau", 2), (2, "!c", 0)], [0, 2])
        self.assertEqual(service.inputs, ["a", "b"])
        self.assertEqual(service.outputs, ["c"])
        self.assertEqual(service.states, 3)
        self.assertEqual(service.transitions, [(0, "?a", 1), (1, "tau", 2), (2, "!c", 0)])
        self.assertEqual(service.final, [0, 2])

    def test_smallest(self):
        self.assertEqual(fields(Service([], [], 1, [], [])), ([], [], 1, [], []))

    def test_transitions_ascend_and_the_argument_stays(self):
        given = [(1, "!b", 0), (0, "tau", 1), (0, "?a", 1), (0, "?a", 0), (0, "!b", 0)]
        before = list(given)
        service = Service(["a"], ["b"], 2, given, [])
        self.assertEqual(
            service.transitions,
            [(0, "!b", 0), (0, "?a", 0), (0, "?a", 1), (0, "tau", 1), (1, "!b", 0)],
        )
        self.assertEqual(given, before)

    def test_transitions_ascend_by_numbers_not_by_digits(self):
        given = [(10, "tau", 2), (2, "tau", 10), (2, "tau", 9)]
        service = Service([], [], 11, given, [2, 10])
        self.assertEqual(service.transitions, [(2, "tau", 9), (2, "tau", 10), (10, "tau", 2)])

    def test_lists_are_copies(self):
        inputs, outputs, transitions, final = ["a"], ["b"], [(0, "?a", 1)], [1]
        service = Service(inputs, outputs, 2, transitions, final)
        inputs.append("x")
        outputs.clear()
        transitions.append((0, "tau", 0))
        final[0] = 0
        self.assertEqual(fields(service), (["a"], ["b"], 2, [(0, "?a", 1)], [1]))

    def test_arguments_stay_as_they_are_when_the_fields_change(self):
        inputs, outputs, transitions, final = ["a"], ["b"], [(0, "?a", 1)], [1]
        service = Service(inputs, outputs, 2, transitions, final)
        service.inputs.append("x")
        service.outputs.clear()
        service.transitions.clear()
        service.final.append(2)
        self.assertEqual((inputs, outputs, transitions, final), (["a"], ["b"], [(0, "?a", 1)], [1]))

    def test_inputs_and_outputs_of_one_list_are_two(self):
        empty = []
        service = Service(empty, empty, 1, empty, empty)
        service.inputs.append("a")
        self.assertEqual((service.outputs, service.transitions, service.final, empty), ([], [], [], []))

    def test_wrong_arguments_are_not_changed(self):
        transitions = [(1, "tau", 0), (0, "tau", 1), (0, "?a", 0)]
        self.assert_no_service([], [], 2, transitions, [])
        self.assertEqual(transitions, [(1, "tau", 0), (0, "tau", 1), (0, "?a", 0)])

    def test_messages_ascend_and_stand_once(self):
        for wrong in (["b", "a"], ["a", "a"], ["a", "c", "b"], ["b", "aa"]):
            self.assert_no_service(wrong, [], 1, [], [])
            self.assert_no_service([], wrong, 1, [], [])

    def test_at_most_three_messages_a_side(self):
        self.assert_no_service(["a", "b", "c", "d"], [], 1, [], [])
        self.assert_no_service([], ["a", "b", "c", "d"], 1, [], [])
        service = Service(["a", "b", "c"], ["d", "e", "f"], 1, [], [])
        self.assertEqual((service.inputs, service.outputs), (["a", "b", "c"], ["d", "e", "f"]))

    def test_no_message_on_both_sides(self):
        self.assert_no_service(["a"], ["a"], 1, [], [])
        self.assert_no_service(["a", "b"], ["b", "c"], 1, [], [])
        self.assertEqual(Service(["a", "c"], ["b"], 1, [], []).outputs, ["b"])

    def test_messages_have_one_to_eight_letters(self):
        for wrong in ("", "abcdefghi", "A", "a1", "a b", "a_", "\u00e9", "?a", "a\n"):
            self.assert_no_service([wrong], [], 1, [], [])
            self.assert_no_service([], [wrong], 1, [], [])
        for right in ("a", "z", "abcdefgh", "qrstuvwx"):
            self.assertEqual(Service([right], [], 1, [], []).inputs, [right])
            self.assertEqual(Service([], [right], 1, [], []).outputs, [right])

    def test_all_letters_are_letters(self):
        for letter in "abcdefghijklmnopqrstuvwxyz":
            self.assertEqual(Service([letter], [], 1, [], []).inputs, [letter])
        for sign in "`{@[/:0":
            self.assert_no_service([sign], [], 1, [], [])

    def test_one_to_twelve_states(self):
        for wrong in (-1, 0, 13, 14):
            self.assert_no_service([], [], wrong, [], [])
        for right in (1, 12):
            self.assertEqual(Service([], [], right, [], []).states, right)

    def test_bools_are_no_numbers(self):
        self.assert_no_service([], [], True, [], [])
        self.assert_no_service([], [], 2, [(False, "tau", 1)], [])
        self.assert_no_service([], [], 2, [(0, "tau", True)], [])
        self.assert_no_service([], [], 2, [], [False])

    def test_at_most_sixty_transitions(self):
        self.assert_no_service([], [], 8, rows(61, 8), [])
        self.assertEqual(len(Service([], [], 8, rows(60, 8), []).transitions), 60)

    def test_no_transition_twice(self):
        self.assert_no_service([], [], 2, [(0, "tau", 1), (0, "tau", 1)], [])
        self.assert_no_service(["a"], [], 2, [(0, "?a", 1), (0, "tau", 0), (0, "?a", 1)], [])

    def test_states_of_transitions_are_there(self):
        for wrong in ((-1, "tau", 0), (0, "tau", -1), (2, "tau", 0), (0, "tau", 2)):
            self.assert_no_service([], [], 2, [wrong], [])
        self.assertEqual(Service([], [], 2, [(1, "tau", 1)], []).transitions, [(1, "tau", 1)])

    def test_final_states_are_there_and_ascend(self):
        for wrong in ([-1], [3], [1, 0], [1, 1], [0, 2, 1], [0, 3]):
            self.assert_no_service([], [], 3, [], wrong)
        for right in ([], [0], [2], [0, 1, 2]):
            self.assertEqual(Service([], [], 3, [], right).final, right)

    def test_labels(self):
        for wrong in ("!a", "?b", "?c", "!c", "a", "", "?", "!", "TAU", "tau ", "?tau", "??a"):
            self.assert_no_service(["a"], ["b"], 2, [(0, wrong, 1)], [])
        for right in ("?a", "!b", "tau"):
            self.assertEqual(Service(["a"], ["b"], 2, [(0, right, 1)], []).transitions, [(0, right, 1)])

    def test_other_kinds_of_values(self):
        for wrong in ((0, "tau"), (0, "tau", 0, 0), [0, "tau", 0], (0, 0, 0), ("0", "tau", 0), None):
            self.assert_no_service([], [], 1, [wrong], [])
        self.assert_no_service([0], [], 1, [], [])
        self.assert_no_service(None, [], 1, [], [])
        self.assert_no_service([], None, 1, [], [])
        self.assert_no_service([], [], "1", [], [])
        self.assert_no_service([], [], 1, None, [])
        self.assert_no_service([], [], 1, [], None)

    def test_message_called_tau(self):
        service = Service(["tau"], [], 2, [(0, "?tau", 1), (1, "tau", 0)], [])
        self.assertEqual(service.transitions, [(0, "?tau", 1), (1, "tau", 0)])


class PartnerTest(Reasons):
    def assert_no_partner(self, *arguments):
        self.assert_reason("no partner", Partner, *arguments)

    def test_fields(self):
        partner = Partner(2, [(0, "!ask", 1), (1, "?reply", 0)], [0, 1])
        self.assertEqual(partner.states, 2)
        self.assertEqual(partner.transitions, [(0, "!ask", 1), (1, "?reply", 0)])
        self.assertEqual(partner.final, [0, 1])

    def test_smallest(self):
        self.assertEqual(fields(Partner(1, [], [])), (1, [], []))

    def test_transitions_ascend_and_the_argument_stays(self):
        given = [(10, "!a", 0), (2, "?a", 1), (2, "!a", 10), (2, "!a", 9)]
        before = list(given)
        partner = Partner(11, given, [])
        self.assertEqual(
            partner.transitions, [(2, "!a", 9), (2, "!a", 10), (2, "?a", 1), (10, "!a", 0)]
        )
        self.assertEqual(given, before)

    def test_lists_are_copies(self):
        transitions, final = [(0, "!a", 1)], [1]
        partner = Partner(2, transitions, final)
        transitions.clear()
        final.append(7)
        self.assertEqual(fields(partner), (2, [(0, "!a", 1)], [1]))
        partner = Partner(2, transitions, [1])
        partner.transitions.append((0, "?b", 0))
        self.assertEqual(transitions, [])

    def test_arguments_stay_as_they_are_when_the_fields_change(self):
        transitions, final = [(0, "!a", 1)], [1]
        partner = Partner(2, transitions, final)
        partner.transitions.clear()
        partner.final.append(2)
        self.assertEqual((transitions, final), ([(0, "!a", 1)], [1]))

    def test_one_to_three_hundred_states(self):
        for wrong in (-1, 0, 301, True):
            self.assert_no_partner(wrong, [], [])
        for right in (1, 13, 300):
            self.assertEqual(Partner(right, [], []).states, right)

    def test_at_most_two_thousand_transitions(self):
        self.assert_no_partner(50, rows(2001, 50, "!a"), [])
        self.assertEqual(len(Partner(50, rows(2000, 50, "!a"), []).transitions), 2000)

    def test_no_transition_twice(self):
        self.assert_no_partner(2, [(0, "!a", 1), (0, "!a", 1)], [])
        self.assertEqual(len(Partner(2, [(0, "!a", 1), (0, "?a", 1), (0, "!a", 0)], []).transitions), 3)

    def test_states_are_there(self):
        for wrong in ((-1, "!a", 0), (0, "!a", -1), (2, "!a", 0), (0, "!a", 2), (False, "!a", 0)):
            self.assert_no_partner(2, [wrong], [])
        self.assertEqual(Partner(300, [(299, "!a", 299)], [299]).final, [299])

    def test_final_states_are_there_and_ascend(self):
        for wrong in ([-1], [3], [1, 0], [1, 1], [True]):
            self.assert_no_partner(3, [], wrong)
        self.assertEqual(Partner(3, [], [0, 1, 2]).final, [0, 1, 2])

    def test_labels(self):
        for wrong in ("tau", "a", "", "!", "?", "!A", "?abcdefghi", "!a b", "!!a", "! a", ".a"):
            self.assert_no_partner(2, [(0, wrong, 1)], [])
        self.assert_no_partner(2, [(0, 0, 1)], [])
        for right in ("!a", "?a", "!abcdefgh", "?tau", "!tau"):
            self.assertEqual(Partner(2, [(0, right, 1)], []).transitions, [(0, right, 1)])


class LinkTest(Reasons):
    def assert_no_link(self, *arguments):
        self.assert_reason("no link", Link, *arguments)

    def test_fields(self):
        link = Link(2, "bag", 1, 0)
        self.assertEqual((link.capacity, link.order, link.losses, link.doubles), (2, "bag", 1, 0))

    def test_bounds_just_kept(self):
        for order in ("row", "bag"):
            for right in ((0, 0, 0), (1, 0, 0), (1, 2, 0), (2, 0, 2), (2, 2, 2)):
                capacity, losses, doubles = right
                link = Link(capacity, order, losses, doubles)
                self.assertEqual((link.capacity, link.losses, link.doubles), right)
                self.assertEqual(link.order, order)

    def test_numbers_from_zero_to_two(self):
        for wrong in (-1, 3, True):
            self.assert_no_link(wrong, "row", 0, 0)
            self.assert_no_link(1, "row", wrong, 0)
            self.assert_no_link(1, "bag", 0, wrong)

    def test_order(self):
        for wrong in ("", "Row", "heap", "row ", "rowbag"):
            self.assert_no_link(1, wrong, 0, 0)
            self.assert_no_link(0, wrong, 0, 0)

    def test_direct_links_lose_and_double_none(self):
        for order in ("row", "bag"):
            self.assert_no_link(0, order, 1, 0)
            self.assert_no_link(0, order, 0, 1)
            self.assert_no_link(0, order, 2, 2)


class LinksTest(unittest.TestCase):
    def test_fields(self):
        links = Links(Link(1, "row", 1, 0), Link(2, "bag", 0, 2))
        self.assertIsInstance(links.to_service, Link)
        self.assertIsInstance(links.to_partner, Link)
        one, two = links.to_service, links.to_partner
        self.assertEqual((one.capacity, one.order, one.losses, one.doubles), (1, "row", 1, 0))
        self.assertEqual((two.capacity, two.order, two.losses, two.doubles), (2, "bag", 0, 2))

    def test_later_changes_of_a_link_have_no_effect(self):
        link = Link(1, "row", 0, 0)
        links = Links(link, link)
        link.capacity = 2
        self.assertEqual((links.to_service.capacity, links.to_partner.capacity), (1, 1))
        links.to_service.order = "bag"
        self.assertEqual((link.order, links.to_partner.order), ("row", "row"))


class LabelsOfTest(unittest.TestCase):
    def test_labels_are_the_partners(self):
        self.assertEqual(labels_of(ask_reply()), ["!ask", "?reply"])

    def test_all_ascend(self):
        service = Service(["b", "d"], ["a", "c", "cc"], 1, [], [])
        self.assertEqual(labels_of(service), ["!b", "!d", "?a", "?c", "?cc"])

    def test_messages_without_transitions_count(self):
        self.assertEqual(labels_of(Service(["a"], [], 1, [], [])), ["!a"])
        self.assertEqual(labels_of(Service([], ["a"], 1, [], [])), ["?a"])
        self.assertEqual(labels_of(Service([], [], 1, [(0, "tau", 0)], [])), [])

    def test_list_belongs_to_the_caller(self):
        service = ask_reply()
        labels_of(service).append("!x")
        self.assertEqual(labels_of(service), ["!ask", "?reply"])
        self.assertEqual((service.inputs, service.outputs), (["ask"], ["reply"]))


class IsPartnerForTest(unittest.TestCase):
    def test_partners(self):
        for transitions in (
            [],
            [(0, "!ask", 1)],
            [(0, "?reply", 0)],
            [(0, "!ask", 1), (1, "!ask", 1), (1, "?reply", 0)],
        ):
            self.assertIs(is_partner_for(ask_reply(), Partner(2, transitions, [])), True)

    def test_no_partners(self):
        for label in ("?ask", "!reply", "!x", "?x", "!as", "!askk", "!tau"):
            partner = Partner(2, [(0, "!ask", 1), (1, label, 0)], [])
            self.assertIs(is_partner_for(ask_reply(), partner), False)

    def test_service_without_messages(self):
        service = Service([], [], 1, [(0, "tau", 0)], [])
        self.assertIs(is_partner_for(service, Partner(1, [], [])), True)
        self.assertIs(is_partner_for(service, Partner(1, [(0, "!tau", 0)], [])), False)


class DualTest(Reasons):
    def test_labels_are_turned_about(self):
        partner = dual(ask_reply())
        self.assertIsInstance(partner, Partner)
        self.assertEqual(fields(partner), (2, [(0, "!ask", 1), (1, "?reply", 0)], [0]))

    def test_transitions_ascend_anew(self):
        service = Service(["a"], ["b"], 3, [(0, "!b", 1), (0, "?a", 2), (2, "!b", 2)], [1, 2])
        self.assertEqual(fields(dual(service)), (3, [(0, "!a", 2), (0, "?b", 1), (2, "?b", 2)], [1, 2]))

    def test_is_a_partner_for_the_service(self):
        self.assertIs(is_partner_for(ask_reply(), dual(ask_reply())), True)

    def test_message_called_tau(self):
        service = Service(["tau"], [], 1, [(0, "?tau", 0)], [0])
        self.assertEqual(fields(dual(service)), (1, [(0, "!tau", 0)], [0]))

    def test_without_transitions(self):
        self.assertEqual(fields(dual(Service(["a"], ["b"], 12, [], [11]))), (12, [], [11]))

    def test_internal_transitions(self):
        for transitions in ([(0, "tau", 0)], [(0, "!b", 1), (0, "?a", 1), (1, "tau", 0)]):
            service = Service(["a"], ["b"], 2, transitions, [])
            self.assert_reason("internal transitions", dual, service)

    def test_service_stays(self):
        service = ask_reply()
        before = repr(fields(service))
        partner = dual(service)
        partner.final.append(1)
        partner.transitions.clear()
        self.assertEqual(repr(fields(service)), before)


class TogetherTest(Reasons):
    def test_numbering_transitions_and_final_pairs(self):
        one = Service(["c"], ["a"], 2, [(0, "?c", 1), (1, "!a", 0)], [0, 1])
        two = Service(["b"], ["d"], 3, [(0, "?b", 2), (2, "tau", 1)], [1, 2])
        both = together(one, two)
        self.assertIsInstance(both, Service)
        self.assertEqual(both.inputs, ["b", "c"])
        self.assertEqual(both.outputs, ["a", "d"])
        self.assertEqual(both.states, 6)
        self.assertEqual(
            both.transitions,
            [
                (0, "?b", 2), (0, "?c", 3), (1, "?c", 4), (2, "?c", 5), (2, "tau", 1),
                (3, "!a", 0), (3, "?b", 5), (4, "!a", 1), (5, "!a", 2), (5, "tau", 4),
            ],
        )
        self.assertEqual(both.final, [1, 2, 4, 5])

    def test_order_of_the_two_counts(self):
        one = Service(["a"], [], 2, [(0, "?a", 1)], [1])
        two = Service([], ["b"], 1, [(0, "!b", 0)], [0])
        self.assertEqual(
            fields(together(one, two)),
            (["a"], ["b"], 2, [(0, "!b", 0), (0, "?a", 1), (1, "!b", 1)], [1]),
        )
        two = Service([], ["b"], 3, [(2, "!b", 0)], [0])
        self.assertEqual(together(one, two).final, [3])
        self.assertEqual(together(two, one).final, [1])

    def test_final_only_where_both_are(self):
        one = Service([], [], 2, [], [])
        two = Service([], [], 2, [], [0, 1])
        self.assertEqual(together(one, two).final, [])
        self.assertEqual(together(two, two).final, [0, 1, 2, 3])

    def test_internal_loops_of_both_are_one(self):
        loop = Service([], [], 1, [(0, "tau", 0)], [])
        self.assertEqual(together(loop, loop).transitions, [(0, "tau", 0)])
        two = Service([], [], 2, [(0, "tau", 1), (1, "tau", 1)], [])
        self.assertEqual(
            together(loop, two).transitions, [(0, "tau", 0), (0, "tau", 1), (1, "tau", 1)]
        )

    def test_common_messages(self):
        one = Service(["a"], ["b"], 1, [], [])
        for inputs, outputs in ((["a"], []), ([], ["a"]), (["b"], []), ([], ["b"]), (["b"], ["a"])):
            two = Service(inputs, outputs, 1, [], [])
            self.assert_reason("common messages", together, one, two)
            self.assert_reason("common messages", together, two, one)
        self.assert_reason("common messages", together, one, one)

    def test_common_messages_without_transitions_among_others(self):
        one = Service(["a", "m"], [], 1, [(0, "?a", 0)], [])
        two = Service([], ["b", "m"], 1, [(0, "!b", 0)], [])
        self.assert_reason("common messages", together, one, two)

    def test_common_messages_ahead_of_no_service(self):
        one = Service(["a", "b"], [], 4, [], [])
        two = Service(["b", "c"], [], 4, [], [])
        self.assert_reason("common messages", together, one, two)

    def test_too_many_messages(self):
        one = Service(["a", "b"], ["x"], 1, [], [])
        two = Service(["c", "d"], [], 1, [], [])
        self.assert_reason("no service", together, one, two)
        one = Service([], ["a", "b"], 1, [], [])
        two = Service([], ["c", "d"], 1, [], [])
        self.assert_reason("no service", together, one, two)

    def test_three_messages_a_side(self):
        one = Service(["b", "c"], ["z"], 1, [], [])
        two = Service(["a"], ["x", "y"], 1, [], [])
        both = together(one, two)
        self.assertEqual((both.inputs, both.outputs), (["a", "b", "c"], ["x", "y", "z"]))

    def test_too_many_states(self):
        one = Service([], [], 5, [], [])
        self.assert_reason("no service", together, one, Service([], [], 3, [], []))
        self.assert_reason("no service", together, Service([], [], 12, [], []), Service([], [], 12, [], []))
        self.assertEqual(together(one, Service([], [], 2, [], [])).states, 10)
        four, three = Service([], [], 4, [], []), Service([], [], 3, [], [])
        self.assertEqual(together(four, three).states, 12)

    def test_too_many_transitions(self):
        two = Service(["a"], [], 2, [(0, "?a", 1)], [])
        one = Service(["x", "y"], ["z"], 6, [(k, "tau", n) for k in range(6) for n in range(5)], [])
        self.assert_reason("no service", together, one, two)
        one = Service(["x", "y"], ["z"], 6, rows(27, 6), [])
        self.assertEqual(len(together(one, two).transitions), 60)

    def test_transitions_are_counted_once(self):
        loops = [(k, "tau", k) for k in range(12)]
        one = Service([], [], 12, loops + [(0, "tau", k) for k in range(1, 12)], [])
        two = Service(["a", "b", "c"], ["x", "y", "z"], 1, [(0, "tau", 0), (0, "?a", 0), (0, "?b", 0)], [])
        # 23 + 3 * 12 are 59, of which the 12 loops would stand twice.
        self.assertEqual(len(together(one, two).transitions), 47)
        more = [(0, label, 0) for label in ("tau", "?a", "?b", "?c")]
        two = Service(["a", "b", "c"], [], 1, more, [])
        # 23 + 4 * 12 are 71, more than 60, but 12 of them fall together.
        self.assertEqual(len(together(one, two).transitions), 59)

    def test_services_stay(self):
        one = ask_reply()
        two = Service(["x"], [], 2, [(0, "?x", 1)], [1])
        before = repr((fields(one), fields(two)))
        both = together(one, two)
        for items in (both.inputs, both.outputs, both.transitions, both.final):
            items.clear()
        self.assertEqual(repr((fields(one), fields(two))), before)


if __name__ == "__main__":
    unittest.main()
