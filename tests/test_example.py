"""The example of point 30, word by word, through the whole program."""

import unittest

from allwhotalk.algebra import forbid, is_within, join, parting
from allwhotalk.conversations import Conversation
from allwhotalk.guides import build, form, hopeless, least
from allwhotalk.machines import Link, Links, Partner, Service, is_partner_for, labels_of
from allwhotalk.partners import follows, following, is_following, is_violation, most_permissive, violation
from allwhotalk.replacing import can_replace, objection
from allwhotalk.runs import is_good, is_stuck_run, stuck_run


def service():
    return Service(["ask"], ["reply"], 2, [(0, "?ask", 1), (1, "!reply", 0)], [0])


def links():
    return Links(Link(1, "row", 1, 0), Link(0, "row", 0, 0))


def first_partner():
    return Partner(2, [(0, "!ask", 1), (1, "?reply", 0)], [0])


def second_partner():
    return Partner(2, [(0, "!ask", 1), (1, "?reply", 0), (1, "!ask", 1)], [0])


class ExampleTest(unittest.TestCase):
    def test_the_machines(self):
        self.assertEqual(labels_of(service()), ["!ask", "?reply"])
        self.assertTrue(is_partner_for(service(), first_partner()))
        self.assertTrue(is_partner_for(service(), second_partner()))

    def test_the_first_partner_gets_stuck(self):
        self.assertIs(is_good(service(), links(), first_partner()), False)
        run = stuck_run(service(), links(), first_partner())
        self.assertEqual([triple[0] for triple in run], ["!ask", "lose ask to service"])
        self.assertIs(is_stuck_run(service(), links(), first_partner(), run), True)

    def test_the_second_partner_is_good(self):
        self.assertIs(is_good(service(), links(), second_partner()), True)
        self.assertIsNone(stuck_run(service(), links(), second_partner()))

    def test_the_guide(self):
        guide = build(service(), links())
        self.assertEqual(len(guide.nodes), 7)
        node = guide.nodes[1]
        self.assertEqual(node.moves, [("!ask", 3), ("?reply", 0)])
        self.assertEqual(node.forbidden, [])
        self.assertEqual(node.clauses, [["!ask", "?reply"], ["!ask", "final"]])
        self.assertIsNone(hopeless(service(), links()))

    def test_who_follows(self):
        guide = build(service(), links())
        self.assertIs(follows(guide, first_partner()), False)
        self.assertIs(follows(guide, second_partner()), True)
        self.assertIs(is_following(guide, second_partner(), following(guide, second_partner())), True)
        self.assertEqual(violation(guide, first_partner()), (["!ask"], 1))
        self.assertIs(is_violation(guide, first_partner(), ["!ask"], 1), True)
        self.assertIs(is_good(service(), links(), most_permissive(guide)), True)

    def test_a_safe_link(self):
        """Without the loss the first partner is good, too, so the lossy service cannot be had for the safe one."""
        safe = build(service(), Links(Link(1, "row", 0, 0), Link(0, "row", 0, 0)))
        lossy = build(service(), links())
        self.assertIs(follows(safe, first_partner()), True)
        self.assertIs(is_within(lossy, safe), True)
        self.assertIs(is_within(safe, lossy), False)
        self.assertIs(follows(lossy, parting(safe, lossy)), False)
        self.assertEqual(form(least(join(safe, lossy))), form(least(lossy)))

    def test_without_questions(self):
        """Nothing but to stay silent is left, and that is fine, as the first state is final."""
        silent = forbid(build(service(), links()), ["!ask"])
        self.assertIs(follows(silent, Partner(1, [], [0])), True)
        self.assertIs(follows(silent, Partner(1, [], [])), False)
        self.assertIs(follows(silent, second_partner()), False)

    def test_another_service(self):
        deaf = Service(["ask"], ["reply"], 2, [(0, "?ask", 1)], [0])
        self.assertIs(can_replace(service(), service(), links()), True)
        self.assertIs(can_replace(service(), deaf, links()), False)
        partner, run = objection(service(), deaf, links())
        self.assertIs(is_good(service(), links(), partner), True)
        self.assertIs(is_stuck_run(deaf, links(), partner, run), True)

    def test_a_conversation(self):
        conversation = Conversation(build(service(), links()))
        self.assertEqual(conversation.record("!ask"), 1)
        self.assertIs(conversation.can_offer(["!ask"], False), True)
        self.assertIs(conversation.can_offer(["!ask", "?reply"], False), True)
        self.assertIs(conversation.can_offer(["?reply"], True), True)
        self.assertIs(conversation.can_offer(["?reply"], False), False)
        self.assertIs(conversation.can_offer([], True), False)
        self.assertEqual(conversation.record("?reply"), 0)


if __name__ == "__main__":
    unittest.main()
