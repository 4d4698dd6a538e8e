"""Tests of allwhotalk.texts."""

import unittest

from allwhotalk.errors import TextError
from allwhotalk.machines import Partner, Service
from allwhotalk.texts import partner_text, read_partner, read_service, service_text

ASK = "inputs ask\noutputs reply\nstates 2\n0 ?ask 1\n1 !reply 0\nfinal 0\n"
ASKER = "states 2\n0 !ask 1\n1 !ask 1\n1 ?reply 0\nfinal 0 1\n"


def ask_reply():
    return Service(["ask"], ["reply"], 2, [(1, "!reply", 0), (0, "?ask", 1)], [0])


def asker():
    return Partner(2, [(1, "?reply", 0), (1, "!ask", 1), (0, "!ask", 1)], [0, 1])


def service_fields(service):
    return (service.inputs, service.outputs, service.states, service.transitions, service.final)


def partner_fields(partner):
    return (partner.states, partner.transitions, partner.final)


def with_line(text, place, line):
    """The text with another line in this place."""
    lines = text.split("\n")
    lines[place] = line
    return "\n".join(lines)


class WritingTest(unittest.TestCase):
    def test_service(self):
        self.assertEqual(service_text(ask_reply()), ASK)

    def test_service_with_empty_lists(self):
        self.assertEqual(
            service_text(Service([], [], 1, [], [])), "inputs\noutputs\nstates 1\nfinal\n"
        )

    def test_service_with_several_of_all(self):
        transitions = [(10, "!d", 9), (2, "tau", 11), (2, "?b", 10), (2, "?b", 9)]
        service = Service(["a", "b", "c"], ["d", "e"], 12, transitions, [0, 2, 11])
        self.assertEqual(
            service_text(service),
            "inputs a b c\noutputs d e\nstates 12\n"
            "2 ?b 9\n2 ?b 10\n2 tau 11\n10 !d 9\nfinal 0 2 11\n",
        )

    def test_partner(self):
        self.assertEqual(partner_text(asker()), ASKER)

    def test_partner_with_empty_lists(self):
        self.assertEqual(partner_text(Partner(1, [], [])), "states 1\nfinal\n")
        self.assertEqual(partner_text(Partner(300, [], [299])), "states 300\nfinal 299\n")

    def test_machines_stay(self):
        service, partner = ask_reply(), asker()
        service_text(service)
        partner_text(partner)
        self.assertEqual(service_fields(service), service_fields(ask_reply()))
        self.assertEqual(partner_fields(partner), partner_fields(asker()))


class ReadingTest(unittest.TestCase):
    def test_service_is_read_back(self):
        for service in (
            ask_reply(),
            Service([], [], 1, [], []),
            Service(["a"], [], 1, [], [0]),
            Service([], ["tau"], 12, [(0, "tau", 11), (11, "!tau", 10)], [0, 10, 11]),
            Service(["abcdefgh"], [], 8, [(k // 8, "tau", k % 8) for k in range(60)], []),
        ):
            read = read_service(service_text(service))
            self.assertIsInstance(read, Service)
            self.assertEqual(service_fields(read), service_fields(service))

    def test_partner_is_read_back(self):
        many = [(k // 50, "!a", k % 50) for k in range(2000)]
        for partner in (
            asker(),
            Partner(1, [], []),
            Partner(300, [(299, "?tau", 0), (0, "!tau", 299)], [0, 10, 299]),
            Partner(50, many, list(range(50))),
        ):
            read = read_partner(partner_text(partner))
            self.assertIsInstance(read, Partner)
            self.assertEqual(partner_fields(read), partner_fields(partner))

    def test_transitions_in_any_order(self):
        text = "inputs ask\noutputs reply\nstates 2\n1 !reply 0\n0 ?ask 1\nfinal 0\n"
        self.assertEqual(service_fields(read_service(text)), service_fields(ask_reply()))
        text = "states 2\n1 ?reply 0\n0 !ask 1\n1 !ask 1\nfinal 0 1\n"
        self.assertEqual(partner_fields(read_partner(text)), partner_fields(asker()))


class Refusals(unittest.TestCase):
    def assert_refused(self, read, text, line, reason):
        with self.assertRaises(TextError, msg=repr(text)) as caught:
            read(text)
        self.assertEqual((caught.exception.line, caught.exception.reason), (line, reason), repr(text))


class UnexpectedTest(Refusals):
    def assert_unexpected(self, read, text, line):
        self.assert_refused(read, text, line, "unexpected")

    def assert_line_unexpected(self, place, lines):
        """Each of these lines is unexpected in this place of the service's text."""
        for line in lines:
            self.assert_unexpected(read_service, with_line(ASK, place, line), place)

    def assert_partners_line_unexpected(self, place, lines):
        for line in lines:
            self.assert_unexpected(read_partner, with_line(ASKER, place, line), place)

    def test_inputs(self):
        self.assert_line_unexpected(0, ("", "input ask", "Inputs ask", "outputs ask", "ask", "inputsask"))
        self.assert_line_unexpected(0, ("inputs Ask", "inputs abcdefghi", "inputs a1", "inputs a,b", "inputs 0"))
        self.assert_line_unexpected(0, ("inputs !ask", "inputs ask\r", "inputs\task", "inputs \u00e9"))

    def test_outputs(self):
        self.assert_line_unexpected(1, ("", "inputs reply", "output reply", "states 2", "final 0", "0 ?ask 1"))
        self.assert_line_unexpected(1, ("outputs Reply", "outputs abcdefghi", "outputs ?a", "outputs 1"))

    def test_states(self):
        self.assert_line_unexpected(2, ("", "states", "state 2", "states two", "states 2 2", "2", "final 0"))
        self.assert_line_unexpected(2, ("states 02", "states +2", "states -2", "states 2.", "states 1_0"))
        self.assert_line_unexpected(2, ("states 00", "states -0", "states \u0662", "states \u00b2", "states 0x2"))
        self.assert_partners_line_unexpected(0, ("", "states", "states 2 2", "states 02", "inputs", "final"))

    def test_spaces(self):
        self.assert_line_unexpected(0, (" inputs ask", "inputs ask ", "inputs  ask", "inputs "))
        self.assert_line_unexpected(1, (" outputs reply", "outputs reply ", "outputs  reply", "outputs "))
        self.assert_line_unexpected(2, (" states 2", "states 2 ", "states  2", "states ", "states 2\t"))
        self.assert_line_unexpected(3, (" 0 ?ask 1", "0 ?ask 1 ", "0  ?ask 1", "0 ?ask  1", "0\t?ask 1", " "))
        self.assert_line_unexpected(5, (" final 0", "final 0 ", "final  0", "final "))

    def test_transitions(self):
        for place in (3, 4):
            self.assert_line_unexpected(place, ("", "0 ?ask", "?ask 1", "0 ?ask 1 1", "0 1 ?ask", "0 1"))
            self.assert_line_unexpected(place, ("0 ask 1", "0 ? 1", "0 ! 1", "0 ?Ask 1", "0 !abcdefghi 1"))
            self.assert_line_unexpected(place, ("0 Tau 1", "0 ?ask1 1", "0 .ask 1", "0 ??ask 1", "0 TAU 1"))
            self.assert_line_unexpected(place, ("00 ?ask 1", "0 ?ask 01", "+0 ?ask 1", "0 ?ask -1", "-0 ?ask 1"))
            self.assert_line_unexpected(place, ("a ?ask 1", "0 ?ask b", "states 2", "inputs", "0 tautau 1"))
        self.assert_partners_line_unexpected(1, ("", "0 !ask", "0 !ask 01", "0 ask 1", "0 !ask 1 ", "0 !a! 1"))

    def test_final(self):
        self.assert_line_unexpected(5, ("Final 0", "finals 0", "final 00", "final 01", "final -1", "final +1"))
        self.assert_line_unexpected(5, ("final a", "final 0 ?ask", "0", "finale", "final0", "final 0,1"))
        self.assert_partners_line_unexpected(4, ("Final 0", "final 00", "final 0  1", "final 0 1 ", "final !a"))

    def test_tau_in_a_partners_text(self):
        self.assert_partners_line_unexpected(1, ("0 tau 1",))
        self.assert_partners_line_unexpected(3, ("0 tau 1",))
        self.assertEqual(read_service(with_line(ASK, 3, "0 tau 1")).transitions[0], (0, "tau", 1))

    def test_lines_behind_final(self):
        for line in ("0 ?ask 1", "final 0", "final", "states 2", "x", " "):
            self.assert_unexpected(read_service, ASK + line + "\n", 6)
            self.assert_unexpected(read_service, ASK + line, 6)
            self.assert_unexpected(read_partner, ASKER + line + "\n", 5)
            self.assert_unexpected(read_partner, ASKER + line, 5)

    def test_empty_lines(self):
        self.assert_unexpected(read_service, "\n" + ASK, 0)
        self.assert_unexpected(read_service, ASK + "\n", 6)
        self.assert_unexpected(read_service, ASK.replace("states", "\nstates"), 2)
        self.assert_unexpected(read_service, ASK.replace("final", "\nfinal"), 5)
        self.assert_unexpected(read_partner, "\n", 0)
        self.assert_unexpected(read_partner, ASKER + "\n\n", 5)

    def test_text_of_the_other_machine(self):
        self.assert_unexpected(read_service, ASKER, 0)
        self.assert_unexpected(read_partner, ASK, 0)

    def test_lines_out_of_order(self):
        self.assert_unexpected(read_service, "outputs b\ninputs a\nstates 1\nfinal\n", 0)
        self.assert_unexpected(read_service, "inputs a\nstates 1\noutputs b\nfinal\n", 1)
        self.assert_unexpected(read_service, "inputs\noutputs\nfinal\nstates 1\n", 2)
        self.assert_unexpected(read_partner, "final\nstates 1\n", 0)

    def test_other_ends_of_lines(self):
        self.assert_unexpected(read_service, ASK.replace("\n", "\r\n"), 0)
        self.assert_unexpected(read_service, ASK.replace("\n", "\r"), 0)
        self.assert_unexpected(read_service, ASK.replace("states 2", "states 2\u2028"), 2)

    def test_first_one_is_told(self):
        text = with_line(with_line(ASK, 1, "outputs A"), 4, "x")
        self.assert_unexpected(read_service, text, 1)
        self.assert_unexpected(read_partner, "states 2\n0 !a 1\n0 a 1\n0 b 1\nfinal\n", 2)


class TooShortTest(Refusals):
    def assert_too_short(self, read, text, line):
        self.assert_refused(read, text, line, "too short")

    def test_empty_text(self):
        self.assert_too_short(read_service, "", 0)
        self.assert_too_short(read_partner, "", 0)

    def test_lines_lacking_at_the_end(self):
        lines = ASK.split("\n")[:-1]
        for many in range(len(lines)):
            self.assert_too_short(read_service, "".join([line + "\n" for line in lines[:many]]), many)
        lines = ASKER.split("\n")[:-1]
        for many in range(len(lines)):
            self.assert_too_short(read_partner, "".join([line + "\n" for line in lines[:many]]), many)

    def test_last_line_without_its_line_feed(self):
        lines = ASK.split("\n")[:-1]
        for many in range(1, len(lines) + 1):
            self.assert_too_short(read_service, "\n".join(lines[:many]), many - 1)
        self.assert_too_short(read_partner, ASKER[:-1], 4)
        self.assert_too_short(read_partner, "states 2", 0)

    def test_line_cut_short_to_another_right_one(self):
        self.assert_too_short(read_service, ASK[:-2].rstrip(" "), 5)
        self.assert_too_short(read_partner, "states 20", 0)


class NoMachineTest(Refusals):
    def assert_no_service(self, text):
        self.assert_refused(read_service, text, text.count("\n"), "no service")

    def assert_no_partner(self, text):
        self.assert_refused(read_partner, text, text.count("\n"), "no partner")

    def test_no_service(self):
        self.assert_no_service(with_line(ASK, 0, "inputs reply"))
        self.assert_no_service(with_line(ASK, 0, "inputs ask ask"))
        self.assert_no_service(with_line(ASK, 0, "inputs b ask"))
        self.assert_no_service(with_line(ASK, 0, "inputs ask b c d"))
        self.assert_no_service(with_line(ASK, 0, "inputs"))
        self.assert_no_service(with_line(ASK, 1, "outputs a b c reply"))
        self.assert_no_service(with_line(ASK, 3, "0 !ask 1"))
        self.assert_no_service(with_line(ASK, 3, "0 ?other 1"))
        self.assert_no_service(with_line(ASK, 3, "1 !reply 0"))
        self.assert_no_service(with_line(ASK, 3, "2 ?ask 1"))
        self.assert_no_service(with_line(ASK, 3, "0 ?ask 2"))
        self.assert_no_service(with_line(ASK, 5, "final 2"))
        self.assert_no_service(with_line(ASK, 5, "final 1 0"))
        self.assert_no_service(with_line(ASK, 5, "final 0 0"))

    def test_no_service_by_its_size(self):
        for states in (0, 13, 99):
            self.assert_no_service("inputs\noutputs\nstates " + str(states) + "\nfinal\n")
        lines = [f"{k // 8} tau {k % 8}\n" for k in range(61)]
        head = "inputs\noutputs\nstates 8\n"
        self.assert_no_service(head + "".join(lines) + "final\n")
        self.assertEqual(len(read_service(head + "".join(lines[1:]) + "final\n").transitions), 60)

    def test_no_partner(self):
        self.assert_no_partner("states 0\nfinal\n")
        self.assert_no_partner("states 301\nfinal\n")
        self.assert_no_partner("states 2\n0 !a 1\n0 !a 1\nfinal\n")
        self.assert_no_partner("states 2\n0 !a 2\nfinal\n")
        self.assert_no_partner("states 2\n2 !a 0\nfinal\n")
        self.assert_no_partner("states 2\nfinal 2\n")
        self.assert_no_partner("states 2\nfinal 1 0\n")
        lines = [f"{k // 50} ?a {k % 50}\n" for k in range(2001)]
        self.assert_no_partner("states 50\n" + "".join(lines) + "final\n")

    def test_numbers_with_very_many_digits(self):
        digits = "1" + "0" * 6000
        self.assert_no_service("inputs\noutputs\nstates " + digits + "\nfinal\n")
        self.assert_no_service("inputs\noutputs\nstates 2\nfinal " + digits + "\n")
        self.assert_no_partner("states " + digits + "\nfinal\n")
        self.assert_no_partner("states 2\n" + digits + " !a 0\nfinal\n")
        self.assert_no_partner("states 2\n0 !a " + digits + "\nfinal\n")


class OrderOfReasonsTest(Refusals):
    def test_unexpected_ahead_of_too_short(self):
        self.assert_refused(read_service, "inputs\nstates 1", 1, "unexpected")
        self.assert_refused(read_service, "inputs\noutputs\nstates", 2, "unexpected")
        self.assert_refused(read_service, "inputs\noutputs\nstates 1\nfinal 01", 3, "unexpected")
        self.assert_refused(read_partner, "states 1\n0 tau 0\n", 1, "unexpected")
        self.assert_refused(read_partner, "states 1\nfin", 1, "unexpected")

    def test_unexpected_ahead_of_no_machine(self):
        self.assert_refused(read_service, "inputs a\noutputs a\nstates 1\n0 a 0\nfinal\n", 3, "unexpected")
        self.assert_refused(read_service, "inputs b a\noutputs\nstates 0\nfinal 4\nfinal\n", 4, "unexpected")
        self.assert_refused(read_partner, "states 0\nfinal x\n", 1, "unexpected")

    def test_too_short_ahead_of_no_machine(self):
        self.assert_refused(read_service, "inputs a\noutputs a\nstates 1\n", 3, "too short")
        self.assert_refused(read_service, "inputs a\noutputs a\nstates 0\nfinal", 3, "too short")
        self.assert_refused(read_partner, "states 0\n", 1, "too short")
        self.assert_refused(read_partner, "states 0\nfinal 7", 1, "too short")


if __name__ == "__main__":
    unittest.main()
