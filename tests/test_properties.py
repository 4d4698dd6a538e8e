"""Compares the program with the document's words on many small services, links and partners."""

import unittest

import reference
from examples import reason_of, some_partners, some_services
from allwhotalk.errors import TalkError
from allwhotalk.guides import build, form, hopeless, is_hopeless, knowledge, least
from allwhotalk.machines import Link, Links, Partner
from allwhotalk.runs import fault_table, is_good, is_stuck_run, stuck_run
from allwhotalk.systems import faults, is_finished, is_waiting, results, service_moves, system_states


def small_enough(pairs):
    """Those pairs of a service and links that have a guide."""
    return [pair for pair in pairs if reason_of(build, *pair) is None]


class SystemsTest(unittest.TestCase):
    def test_all_that_can_happen(self):
        refused = 0
        for service, links in some_services(1, 150, 6, 12):
            expected = sorted(reference.reachable(service, links))
            if len(expected) > 120:
                self.assertEqual(reason_of(system_states, service, links), "too many system states")
                refused += 1
                continue
            self.assertEqual(system_states(service, links), expected)
            for state in expected[::4]:
                self.check_state(service, links, state)
        self.assertTrue(0 < refused < 75)

    def check_state(self, service, links, state):
        for label in reference.interface(service):
            expected = sorted(reference.results(service, links, state, label))
            self.assertEqual(results(service, links, state, label), expected)
        expected = sorted(reference.moves(service, links, state))
        self.assertEqual(service_moves(service, links, state), expected)
        self.assertEqual(faults(service, links, state), sorted(reference.faults(links, state)))
        self.assertIs(is_waiting(service, links, state), not expected)
        self.assertIs(is_finished(service, links, state), reference.is_finished(service, state))


class GuidesTest(unittest.TestCase):
    def test_guides(self):
        kinds = set()
        for service, links in some_services(2, 250):
            if len(reference.reachable(service, links)) > 120:
                self.assertEqual(reason_of(build, service, links), "too many system states")
                self.assertEqual(reason_of(hopeless, service, links), "too many system states")
                kinds.add("many states")
            elif len(reference.graph(service, links)) > 60:
                self.assertEqual(reason_of(build, service, links), "too many nodes")
                self.assertEqual(reason_of(hopeless, service, links), "too many nodes")
                kinds.add("many sets")
            else:
                kinds.add(self.check_guide(service, links))
        self.assertEqual(kinds, {"many states", "many sets", "some", "none"})

    def check_guide(self, service, links):
        guide = build(service, links)
        self.assertEqual(form(guide), reference.guide(service, links))
        self.assertEqual(form(least(guide)), reference.least(form(guide)))
        pairs = hopeless(service, links)
        if guide.nodes:
            self.assertIsNone(pairs)
            self.assertIs(is_hopeless(service, links, []), False)
            return "some"
        self.assertTrue(reference.is_right_hopeless(service, links, pairs))
        self.assertIs(is_hopeless(service, links, pairs), True)
        for at in range(len(pairs)):
            fewer = pairs[:at] + pairs[at + 1:]
            self.assertIs(is_hopeless(service, links, fewer), reference.is_right_hopeless(service, links, fewer))
            moved = fewer + [pairs[at]]
            self.assertIs(is_hopeless(service, links, moved), reference.is_right_hopeless(service, links, moved))
        return "none"

    def test_knowledge(self):
        for service, links in small_enough(some_services(3, 60)):
            labels = reference.interface(service)
            rows = [[], labels, labels[::-1], labels[:1] * 3, labels[-1:] + labels[:1] * 2]
            for row in rows:
                expected = sorted(reference.knowledge(service, links, row))
                self.assertEqual(knowledge(service, links, row), expected)

    def test_guides_of_guides(self):
        shrunk = 0
        for service, links in small_enough(some_services(4, 80)):
            small = least(build(service, links))
            self.assertEqual(form(least(small)), form(small))
            shrunk += len(small.nodes) < len(build(service, links).nodes)
        self.assertGreater(shrunk, 5)


class PartnersTest(unittest.TestCase):
    def test_a_partner_is_good_exactly_if_it_follows_the_guide(self):
        seen = set()
        for number, (service, links) in enumerate(small_enough(some_services(5, 160))):
            guide = form(build(service, links))
            labels = reference.interface(service)
            for partner in some_partners(number, 12, labels) + made_from(guide):
                good = reference.follows(guide, partner)
                self.check_partner(service, links, partner, good)
                self.assertIs(reference.follows(form(least(build(service, links))), partner), good)
                seen.add((good, len(guide[2]) > 0))
        self.assertEqual(seen, {(True, True), (False, True), (False, False)})

    def check_partner(self, service, links, partner, good):
        self.assertIs(is_good(service, links, partner), good)
        length = reference.least_steps_to_stuck(service, links, partner)
        run = stuck_run(service, links, partner)
        if good:
            self.assertIsNone(length)
            self.assertIsNone(run)
            return
        self.assertEqual(len(run), length)
        self.assertTrue(self.is_right(service, links, partner, run))
        self.assertIs(is_stuck_run(service, links, partner, run), True)
        self.assertIs(is_stuck_run(service, links, partner, run[:-1]), length == 0)

    def is_right(self, service, links, partner, run):
        here = (reference.first_state(links), 0)
        for triple in run:
            if triple not in reference.steps(service, links, partner, here):
                return False
            here = triple[1:]
        return reference.is_stuck(service, links, partner, here)

    def test_fewer_losses_or_doubles_keep_a_partner_good(self):
        kinds = set()
        for number, (service, links) in enumerate(some_services(6, 200, 3, 5)):
            if 0 in (links.to_service.capacity, links.to_partner.capacity):
                continue
            for partner in some_partners(number, 4, reference.interface(service)):
                kinds.add(self.check_fewer(service, links, partner))
        self.assertTrue({"refused", "changes", "does not change"} <= kinds)

    def check_fewer(self, service, links, partner):
        try:
            table = fault_table(service, links, partner)
        except TalkError:
            return "refused"
        for i in range(3):
            for j in range(3):
                faulty = with_faults(links, i, j, links.to_service.doubles)
                good = reference.least_steps_to_stuck(service, faulty, partner) is None
                self.assertIs(table[i][j], good)
                if good and links.to_service.doubles > 0:
                    fewer = with_faults(links, i, j, links.to_service.doubles - 1)
                    self.assertTrue(is_good(service, fewer, partner))
                self.assertTrue(i == 0 or table[i - 1][j] or not table[i][j])
                self.assertTrue(j == 0 or table[i][j - 1] or not table[i][j])
        return "changes" if table[0][0] != table[2][2] else "does not change"


def with_faults(links, i, j, doubles):
    one, two = links.to_service, links.to_partner
    return Links(Link(one.capacity, one.order, i, doubles), Link(two.capacity, two.order, j, two.doubles))


def made_from(guide):
    """Partners that follow the guide of this form, and some that nearly do."""
    nodes = guide[2]
    if not nodes:
        return []
    transitions = [(n, label, target) for n, node in enumerate(nodes) for label, target in node[0]]
    every = list(range(len(nodes)))
    found = [Partner(len(nodes), transitions, every), Partner(len(nodes), transitions, every[1:])]
    for k in range(min(6, len(transitions))):
        found.append(Partner(len(nodes), transitions[:k] + transitions[k + 1:], every))
        found.append(Partner(len(nodes), transitions[:k] + transitions[k + 1:], every[:k] + every[k + 1:]))
    return found


if __name__ == "__main__":
    unittest.main()
