"""Tests of replacing an old service by a new one."""

import unittest

import reference
import reference_guides
from examples import (
    ask_reply, bag, direct, example_links, fields_of_links, fields_of_service, picture, reason_of, row, spoil,
    with_60_good_sets, with_61_sets,
)
from allwhotalk.guides import build
from allwhotalk.machines import Links, Partner, Service
from allwhotalk.replacing import can_replace, objection
from allwhotalk.runs import is_good, is_stuck_run

BOTH_DIRECT = Links(direct(), direct())
ALL_LINKS = [
    BOTH_DIRECT, example_links(), Links(row(1), row(1)), Links(direct(), row(2)), Links(bag(1, 0, 1), direct()),
]


def chooser(transitions, final=(2,)):
    """A service with the input a and the outputs x and y, and four states."""
    return Service(["a"], ["x", "y"], 4, sorted(transitions), list(final))


def decides():
    """It decides by itself whether it sends x or y."""
    return chooser([(0, "tau", 1), (0, "tau", 3), (1, "!x", 2), (3, "!y", 2)])


def lets_decide():
    """Over direct links its partner decides."""
    return chooser([(0, "!x", 2), (0, "!y", 2)])


def only_x():
    return chooser([(0, "!x", 2)])


def helpless():
    """It has no good partner."""
    return chooser([(0, "!x", 1)])


class ReplacingTest(unittest.TestCase):
    def assert_replaces(self, old, new, links):
        self.assertIs(can_replace(old, new, links), True)
        self.assertIsNone(objection(old, new, links))

    def assert_does_not(self, old, new, links):
        self.assertIs(can_replace(old, new, links), False)
        told = objection(old, new, links)
        self.assertIsInstance(told, tuple)
        self.assertEqual(len(told), 2)
        partner, run = told
        self.assertIsInstance(partner, Partner)
        self.assertIsInstance(run, list)
        self.assertIs(is_good(old, links, partner), True)
        self.assertIs(is_good(new, links, partner), False)
        self.assertIs(is_stuck_run(new, links, partner, run), True)
        self.assertIsNone(reference.least_steps_to_stuck(old, links, partner))
        return told

    def test_a_service_and_itself(self):
        for links in ALL_LINKS:
            for service in (ask_reply(), decides(), lets_decide(), only_x(), helpless()):
                self.assert_replaces(service, service, links)

    def test_a_transition_less(self):
        self.assert_replaces(decides(), only_x(), BOTH_DIRECT)
        partner, _ = self.assert_does_not(lets_decide(), only_x(), BOTH_DIRECT)
        self.assertNotIn("?x", [label for p, label, _ in partner.transitions if p == 0])
        self.assert_does_not(ask_reply(), Service(["ask"], ["reply"], 2, [(0, "?ask", 1)], [0]), BOTH_DIRECT)
        self.assert_does_not(ask_reply(), Service(["ask"], ["reply"], 2, [(1, "!reply", 0)], [0]), BOTH_DIRECT)
        # Without the answer, and with a final state more, the question can still be sent once.
        silent = Service(["ask"], ["reply"], 2, [(0, "?ask", 1)], [0, 1])
        self.assert_does_not(ask_reply(), silent, BOTH_DIRECT)
        self.assert_replaces(Service(["ask"], ["reply"], 2, [], [0]), Service(["ask"], ["reply"], 1, [], [0]),
                             BOTH_DIRECT)

    def test_a_transition_more(self):
        # What a partner has behind "?y" is no harm with the old one, which never sends it.
        self.assert_does_not(only_x(), lets_decide(), BOTH_DIRECT)
        self.assert_does_not(only_x(), decides(), BOTH_DIRECT)
        self.assert_does_not(only_x(), lets_decide(), Links(direct(), row(1)))
        more = Service(["ask"], ["reply"], 2, [(0, "?ask", 1), (1, "!reply", 0), (1, "tau", 0)], [0])
        self.assert_does_not(ask_reply(), more, BOTH_DIRECT)
        # A good partner of the old one never sends a, as this leads to a dead end; the new one has a way out of it.
        dead_end = [(0, "?a", 3), (0, "!x", 2)]
        self.assert_replaces(chooser(dead_end), chooser(dead_end + [(3, "!y", 2)]), BOTH_DIRECT)
        self.assert_does_not(chooser(dead_end + [(3, "!y", 2)]), chooser(dead_end), BOTH_DIRECT)
        self.assert_replaces(chooser(dead_end), chooser(dead_end + [(3, "?a", 3)]), BOTH_DIRECT)
        self.assert_replaces(chooser(dead_end), only_x(), BOTH_DIRECT)

    def test_final_states(self):
        never = Service(["ask"], ["reply"], 2, [(0, "?ask", 1), (1, "!reply", 0)], [])
        always = Service(["ask"], ["reply"], 2, [(0, "?ask", 1), (1, "!reply", 0)], [0, 1])
        self.assert_replaces(ask_reply(), always, BOTH_DIRECT)
        self.assert_replaces(never, ask_reply(), BOTH_DIRECT)
        self.assert_does_not(ask_reply(), never, BOTH_DIRECT)
        self.assert_does_not(always, ask_reply(), BOTH_DIRECT)

    def test_the_links_matter(self):
        """The partner decides only where the link to it is direct."""
        self.assert_does_not(lets_decide(), decides(), BOTH_DIRECT)
        self.assert_replaces(decides(), lets_decide(), BOTH_DIRECT)
        for links in (Links(direct(), row(1)), Links(direct(), bag(2))):
            self.assert_replaces(lets_decide(), decides(), links)
            self.assert_replaces(decides(), lets_decide(), links)

    def test_without_good_partners(self):
        self.assertEqual(build(helpless(), BOTH_DIRECT).nodes, [])
        self.assert_replaces(helpless(), only_x(), BOTH_DIRECT)
        self.assert_replaces(helpless(), helpless(), BOTH_DIRECT)
        self.assert_does_not(only_x(), helpless(), BOTH_DIRECT)
        self.assert_does_not(decides(), helpless(), BOTH_DIRECT)
        dead = chooser([], ())
        _, run = self.assert_does_not(only_x(), dead, BOTH_DIRECT)
        self.assertEqual(run, [])


class ErrorsTest(unittest.TestCase):
    def assert_reason(self, old, new, links, reason):
        self.assertEqual(reason_of(can_replace, old, new, links), reason)
        self.assertEqual(reason_of(objection, old, new, links), reason)

    def idle(self, final=(0,)):
        return Service(["a", "b"], ["x"], 1, [], list(final))

    def many_states(self):
        return Service(["a", "b"], ["x"], 12, [(k, "tau", (k + 1) % 12) for k in range(12)], [0])

    def test_interfaces_differ(self):
        for inputs, outputs in ((["ask"], []), ([], ["reply"]), (["ask"], ["x"]), (["a"], ["reply"]),
                                (["reply"], ["ask"]), (["ask", "b"], ["reply"]), (["ask"], ["reply", "x"])):
            other = Service(inputs, outputs, 1, [], [0])
            self.assert_reason(ask_reply(), other, BOTH_DIRECT, "interfaces differ")
            self.assert_reason(other, ask_reply(), BOTH_DIRECT, "interfaces differ")

    def test_interfaces_differ_ahead_of_all_others(self):
        many_sets, links = with_61_sets()
        for inputs, outputs in ((["a"], ["x"]), (["a", "b"], []), (["a", "b"], ["x", "y"]), (["a", "b"], ["y"])):
            other = Service(inputs, outputs, 1, [], [0])
            for wrong in (self.many_states(), many_sets):
                self.assert_reason(wrong, other, links, "interfaces differ")
                self.assert_reason(other, wrong, links, "interfaces differ")
        self.assert_reason(Service(["a"], ["x"], 12, self.many_states().transitions, []), self.many_states(), links,
                           "interfaces differ")

    def test_errors_of_the_old_and_then_of_the_new_service(self):
        many_sets, links = with_61_sets()
        many_states = self.many_states()
        self.assertEqual(reason_of(build, many_states, links), "too many system states")
        self.assertEqual(reason_of(build, many_sets, links), "too many nodes")
        for idle in (self.idle(), self.idle([])):
            self.assertEqual(reason_of(build, idle, links), None)
            self.assert_reason(idle, many_states, links, "too many system states")
            self.assert_reason(idle, many_sets, links, "too many nodes")
            self.assert_reason(many_states, idle, links, "too many system states")
            self.assert_reason(many_sets, idle, links, "too many nodes")
        self.assert_reason(many_states, many_sets, links, "too many system states")
        self.assert_reason(many_sets, many_states, links, "too many nodes")
        self.assert_reason(many_sets, many_sets, links, "too many nodes")

    def test_60_sets(self):
        service, links = with_60_good_sets()
        self.assertIs(can_replace(service, service, links), True)
        self.assertIsNone(objection(service, service, links))


class ManyServicesTest(unittest.TestCase):
    def test_a_transition_more_or_less_over_all_links(self):
        services = [decides(), lets_decide(), only_x(), helpless(), chooser([(0, "?a", 2), (2, "!y", 2)])]
        services += changed(decides()) + changed(lets_decide())
        seen = []
        for links in ALL_LINKS:
            forms = [reference.guide(service, links) for service in services]
            for old, before in zip(services, forms):
                for new, after in zip(services, forms):
                    expected = reference_guides.is_within(before, after)
                    self.assertIs(can_replace(old, new, links), expected)
                    self.check(old, new, links, objection(old, new, links), expected)
                    seen.append(expected)
        self.assertTrue(100 < seen.count(True) < len(seen) - 100)

    def check(self, old, new, links, told, expected):
        self.assertIs(told is None, expected)
        if told is not None:
            partner, run = told
            self.assertIs(is_good(old, links, partner), True)
            self.assertIs(is_stuck_run(new, links, partner, run), True)


def changed(service):
    """The service with one transition left out, each in turn, and with some put in."""
    found = []
    rows = [[t for t in service.transitions if t != each] for each in service.transitions]
    more = [(0, "?a", 0), (0, "!x", 0), (1, "!y", 2), (2, "tau", 0), (2, "!x", 3)]
    rows += [sorted(set(service.transitions + [each])) for each in more]
    for transitions in rows:
        found.append(Service(service.inputs, service.outputs, service.states, transitions, service.final))
    return found


class ArgumentsTest(unittest.TestCase):
    """Point 2: arguments stay as they are, and what is returned belongs to the caller."""

    def test_arguments_and_answers(self):
        old, new, links = only_x(), decides(), BOTH_DIRECT
        before = [fields_of_service(old), fields_of_service(new), fields_of_links(links)]
        before = picture(before)
        answers = []
        for _ in range(2):
            told = [can_replace(old, new, links), can_replace(new, old, links), objection(old, new, links)]
            told.append(objection(new, old, links))
            answers.append(picture(told))
            spoil(told)
            now = [fields_of_service(old), fields_of_service(new), fields_of_links(links)]
            self.assertEqual(picture(now), before)
        self.assertEqual(answers[0], answers[1])


if __name__ == "__main__":
    unittest.main()
