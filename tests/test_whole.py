"""What holds over the whole program, on many small services, links and partners."""

import itertools
import random
import unittest

import reference
import reference_guides
from examples import (
    direct, fields_of_links, fields_of_service, picture, reachable_labels, reason_of, some_partners, some_services,
    spoil, turned,
)
from allwhotalk.algebra import forbid, inclusion, is_inclusion, is_within, join, parting
from allwhotalk.conversations import Conversation
from allwhotalk.guides import build, form, hopeless, is_hopeless, least
from allwhotalk.machines import Link, Links, Partner, Service, labels_of, together
from allwhotalk.partners import (
    chosen, follows, follows_from, following, is_following, is_violation, most_permissive, representative, violation,
)
from allwhotalk.replacing import can_replace, objection
from allwhotalk.runs import is_good, is_stuck_run, stuck_run


def with_guides(seed, many, states=4, transitions=7):
    """Triples of a service, links and their guide, where there is one."""
    found = []
    for service, links in some_services(seed, many, states, transitions):
        if reason_of(build, service, links) is None:
            found.append((service, links, build(service, links)))
    return found


def variants(service, chance):
    """Services with the same interface: a transition less, one more, another list of final states."""
    labels = ["?" + m for m in service.inputs] + ["!" + m for m in service.outputs] + ["tau"]
    rows = [service.transitions[:k] + service.transitions[k + 1:] for k in range(len(service.transitions))]
    for _ in range(3):
        more = (chance.randrange(service.states), chance.choice(labels), chance.randrange(service.states))
        rows.append(sorted(set(service.transitions + [more])))
    finals = [service.final] * len(rows) + [list(range(service.states)), []]
    rows += [service.transitions] * 2
    return [
        Service(service.inputs, service.outputs, service.states, transitions, final)
        for transitions, final in zip(rows, finals)
    ]


def kind_of(link):
    return (link.order if link.capacity else "direct", link.losses > 0, link.doubles > 0)


class GoodTest(unittest.TestCase):
    def test_good_exactly_if_it_follows(self):
        """Point 18, with the papers for both answers; all kinds of links are met."""
        seen, kinds = set(), set()
        for number, (service, links, guide) in enumerate(with_guides(71, 220)):
            kinds |= {kind_of(links.to_service), kind_of(links.to_partner)}
            for partner in some_partners(number, 8, labels_of(service)):
                good = is_good(service, links, partner)
                self.assertIs(follows(guide, partner), good)
                self.check_papers(service, links, guide, partner, good)
                seen.add((good, len(guide.nodes) > 0))
        self.assertEqual(seen, {(True, True), (False, True), (False, False)})
        self.assertEqual(len(kinds), 9)

    def check_papers(self, service, links, guide, partner, good):
        run, told, fault = stuck_run(service, links, partner), following(guide, partner), violation(guide, partner)
        self.assertIs(run is None, good)
        self.assertIs(told is not None, good)
        self.assertIs(fault is None, good or len(guide.nodes) == 0)
        if run is not None:
            self.assertIs(is_stuck_run(service, links, partner, run), True)
        if told is not None:
            self.assertIs(is_following(guide, partner, told), True)
        if fault is not None:
            self.assertIs(is_violation(guide, partner, *fault), True)
            for label in labels_of(service):
                longer = fault[0] + [label]
                expected = reference_guides.is_right_violation(form(guide), partner, longer, fault[1])
                self.assertIs(is_violation(guide, partner, longer, fault[1]), expected)

    def test_hopeless_exactly_if_no_nodes(self):
        seen = set()
        for service, links, guide in with_guides(72, 200):
            pairs = hopeless(service, links)
            self.assertIs(pairs is not None, len(guide.nodes) == 0)
            self.assertEqual(reason_of(Conversation, guide), "no nodes" if pairs else None)
            self.assertTrue(pairs is None or is_hopeless(service, links, pairs))
            seen.add(pairs is None)
        self.assertEqual(seen, {True, False})

    def test_partners_that_are_made(self):
        starting = 0
        for service, links, guide in with_guides(73, 150):
            if not guide.nodes:
                for function in (most_permissive, chosen, representative):
                    self.assertEqual(reason_of(function, guide), "no nodes")
                continue
            self.assertIs(is_good(service, links, most_permissive(guide)), True)
            self.assertIs(is_good(service, links, chosen(guide)), True)
            if reason_of(representative, guide) is None:
                partner, starts = representative(guide)
                for start in starts:
                    self.assertIs(is_good(service, links, turned(partner, start)), True)
                    starting += 1
        self.assertGreater(starting, 200)

    def test_nondeterministic_and_endless_partners(self):
        """All partners of two states over one label that are good follow, and the others do not."""
        pairs = [(p, q) for p in range(2) for q in range(2)]
        for service, links, guide in with_guides(74, 40, 3, 5):
            for label in labels_of(service)[:2]:
                for size in range(5):
                    for some in itertools.combinations(pairs, size):
                        for final in ([], [0], [1], [0, 1]):
                            partner = Partner(2, [(p, label, q) for p, q in some], final)
                            self.assertIs(follows(guide, partner), is_good(service, links, partner))


class FewerFaultsTest(unittest.TestCase):
    def test_with_fewer_losses_or_doubles(self):
        """Point 29: a good partner stays good, so the guide is within the one with fewer."""
        seen = set()
        for service, links, guide in with_guides(75, 200, 3, 5):
            for fewer in with_fewer(links):
                if reason_of(build, service, fewer) is None:
                    other = build(service, fewer)
                    self.assertIs(is_within(guide, other), True)
                    seen.add(is_within(other, guide))
                    if guide.nodes:
                        self.assertIs(is_good(service, fewer, most_permissive(guide)), True)
                        self.assertIs(is_good(service, fewer, chosen(guide)), True)
        self.assertEqual(seen, {True, False})


def with_fewer(links):
    """The links with one loss or one double fewer, in all ways."""
    one, two = links.to_service, links.to_partner
    found = [Links(link, two) for link in fewer_of(one)] + [Links(one, link) for link in fewer_of(two)]
    return found


def fewer_of(link):
    found = []
    if link.losses > 0:
        found.append(Link(link.capacity, link.order, link.losses - 1, link.doubles))
    if link.doubles > 0:
        found.append(Link(link.capacity, link.order, link.losses, link.doubles - 1))
    return found


class ComparedTest(unittest.TestCase):
    def test_guides_of_services(self):
        """Points 24, 25, 26 and 29 on pairs of services with one interface and the same links."""
        chance = random.Random(76)
        seen = set()
        for service, links, guide in with_guides(76, 70, 3, 5):
            for other in variants(service, chance):
                if reason_of(build, other, links) is None:
                    told = self.check(service, other, links, guide, build(other, links))
                    self.check(other, service, links, build(other, links), guide)
                    seen.add((told, len(guide.nodes) > 0))
        self.assertEqual(seen, {(True, True), (False, True), (True, False)})

    def check(self, old, new, links, one, two):
        within = reference_guides.is_within(form(one), form(two))
        self.assertIs(is_within(one, two), within)
        self.assertIs(can_replace(old, new, links), within)
        pairs = inclusion(one, two)
        self.assertIs(pairs is not None, within and len(one.nodes) > 0)
        self.assertTrue(pairs is None or is_inclusion(one, two, pairs))
        self.check_representative(one, two, within)
        partner, told = parting(one, two), objection(old, new, links)
        self.assertIs(partner is None, within)
        self.assertIs(told is None, within)
        if not within:
            self.assertIs(is_good(old, links, partner), True)
            self.assertIs(is_good(new, links, partner), False)
            self.assertIs(is_good(old, links, told[0]), True)
            self.assertIs(is_stuck_run(new, links, *told), True)
        both = within and reference_guides.is_within(form(two), form(one))
        self.assertIs(form(least(one)) == form(least(two)), both)
        return within

    def check_representative(self, one, two, within):
        if one.nodes and reason_of(representative, one) is None:
            partner, starts = representative(one)
            self.assertIs(all(follows_from(two, partner, start) for start in starts), within)

    def test_joined_and_forbidden(self):
        chance = random.Random(77)
        seen = set()
        for number, (service, links, guide) in enumerate(with_guides(77, 60, 3, 5)):
            for other in variants(service, chance)[-3:]:
                if reason_of(build, other, links) is None:
                    both = join(guide, build(other, links))
                    for partner in some_partners(number, 6, labels_of(service)):
                        expected = is_good(service, links, partner) and is_good(other, links, partner)
                        self.assertIs(follows(both, partner), expected)
                        seen.add(expected)
            for labels in ([], labels_of(service)[:1], labels_of(service)[-1:], labels_of(service)):
                fewer = forbid(guide, labels)
                for partner in some_partners(number, 6, labels_of(service)):
                    used = any(label in labels for label in reachable_labels(partner))
                    self.assertIs(follows(fewer, partner), is_good(service, links, partner) and not used)
        self.assertEqual(seen, {True, False})


class BetweenTest(unittest.TestCase):
    """Point 27: the guide of two services as one describes all machines between them."""

    def caller(self):
        return Service(["answer"], ["call"], 2, [(0, "!call", 1), (1, "?answer", 0)], [0])

    def oracle(self):
        return Service(["ask"], ["reply"], 2, [(0, "?ask", 1), (1, "!reply", 0)], [0])

    def between(self):
        """It makes the caller's letters out of the oracle's, and the other way round."""
        transitions = [(0, "?call", 1), (1, "!ask", 2), (2, "?reply", 3), (3, "!answer", 0)]
        return Partner(4, transitions, [0])

    def test_a_machine_between(self):
        both = together(self.caller(), self.oracle())
        for links in (Links(direct(), direct()), Links(Link(1, "row", 0, 0), Link(1, "row", 0, 0))):
            guide = build(both, links)
            self.assertIs(follows(guide, self.between()), True)
            self.assertIs(is_good(both, links, self.between()), True)
            hasty = Partner(3, [(0, "?call", 1), (1, "!answer", 0)], [0])
            self.assertIs(follows(guide, hasty), True)
            wrong = Partner(4, [(0, "?call", 1), (1, "!answer", 2), (2, "?reply", 3), (3, "!ask", 0)], [0])
            self.assertIs(follows(guide, wrong), False)
            self.assertIs(is_good(both, links, wrong), False)

    def test_two_partners_side_by_side(self):
        """Over direct links good partners of the one and of the other are a good machine between them."""
        links = Links(direct(), direct())
        found = [pair[0] for pair in some_services(78, 40, 3, 5)]
        made = 0
        for one, two in zip(found, found[1:]):
            other = renamed(two)
            if reason_of(together, one, other) is not None or reason_of(build, together(one, other), links) is not None:
                continue
            both, left, right = build(together(one, other), links), build(one, links), build(other, links)
            self.assertIs(len(both.nodes) == 0 and len(left.nodes) > 0 and len(right.nodes) > 0, False)
            if left.nodes and right.nodes:
                for p, q in itertools.product((chosen(left), most_permissive(left)), (chosen(right),)):
                    self.assertIs(follows(both, side_by_side(p, q)), True)
                    made += 1
        self.assertGreater(made, 10)


def renamed(service):
    """The service with other messages: each letter is doubled."""
    transitions = [(s, label if label == "tau" else label + label[1:], t) for s, label, t in service.transitions]
    inputs, outputs = [m + m for m in service.inputs], [m + m for m in service.outputs]
    return Service(inputs, outputs, service.states, transitions, service.final)


def side_by_side(one, two):
    """The partner that does what both do, in any order."""
    transitions = [
        (p * two.states + k, label, q * two.states + k) for p, label, q in one.transitions for k in range(two.states)
    ] + [
        (k * two.states + p, label, k * two.states + q) for p, label, q in two.transitions for k in range(one.states)
    ]
    final = sorted(p * two.states + q for p in one.final for q in two.final)
    return Partner(one.states * two.states, transitions, final)


class LaterChangesTest(unittest.TestCase):
    """Point 2: what a caller changes later changes no later answer."""

    def test_services_and_guides(self):
        for service, links, guide in with_guides(79, 60):
            before = picture([fields_of_service(service), fields_of_links(links), guide])
            again = build(service, links)
            answers = picture(self.answers(guide, again))
            spoil(self.answers(guide, again))
            self.assertEqual(picture([fields_of_service(service), fields_of_links(links), guide]), before)
            self.assertEqual(picture(self.answers(guide, again)), answers)
            spoil(again)
            self.assertEqual(picture(guide), before[1][2])
            self.assertEqual(picture(self.answers(guide, build(service, links))), answers)

    def answers(self, guide, again):
        labels = [label for node in guide.nodes[:1] for label, _ in node.moves]
        told = [forbid(guide, labels[:1]), least(guide), inclusion(guide, again), parting(guide, again)]
        if len(guide.nodes) < 8:
            told.append(join(guide, again))
        if guide.nodes:
            told += [most_permissive(guide), chosen(guide), following(guide, most_permissive(again))]
        return told

    def test_a_conversation_over_a_service(self):
        for service, links, guide in with_guides(80, 40):
            if guide.nodes:
                conversation, told = Conversation(guide), form(guide)
                spoil(service)
                spoil(guide)
                rows = [conversation.count_rows(k) for k in range(4)]
                self.assertEqual(rows, [reference_guides.count_rows(told, 0, k) for k in range(4)])
                for label, target in told[2][0][0][:1]:
                    self.assertEqual(conversation.record(label), target)


class ReferenceTest(unittest.TestCase):
    def test_both_writings_of_following_agree(self):
        for number, (service, _, guide) in enumerate(with_guides(81, 60)):
            for partner in some_partners(number, 6, labels_of(service)):
                length = reference_guides.least_labels_to_fault(form(guide), partner)
                expected = length is None and len(guide.nodes) > 0
                self.assertIs(reference.follows(form(guide), partner), expected)


if __name__ == "__main__":
    unittest.main()
