"""Tests of guides in general: Node, Guide, form and least."""

import unittest

from examples import ask_reply, direct, example_links, reason_of
from allwhotalk.guides import Guide, Node, build, form, least
from allwhotalk.machines import Links


def right_nodes():
    """The nodes of a guide with the input a and b and the output x."""
    return [
        Node([("!a", 1), ("?x", 0)], ["!b"], [["!a", "?x"], ["!a", "final"]]),
        Node([("!a", 1), ("!b", 2), ("?x", 1)], [], [["!a", "!b"], ["?x"], ["final"]]),
        Node([], ["!a", "!b", "?x"], [["final"]]),
    ]


def right_guide():
    return Guide(["a", "b"], ["x"], right_nodes())


def fields(node):
    return (node.moves, node.forbidden, node.clauses)


def chain(many):
    """So many nodes with one label, each with a move to the next one, the last one to itself."""
    return [Node([("!a", min(k + 1, many - 1))], [], [["!a"]]) for k in range(many)]


class NodeTest(unittest.TestCase):
    def test_fields(self):
        node = Node([("!a", 1)], ["!b"], [["!a", "final"]])
        self.assertEqual(fields(node), ([("!a", 1)], ["!b"], [["!a", "final"]]))

    def test_lists_are_copies(self):
        moves, forbidden, clauses = [("!a", 1)], ["!b"], [["!a", "final"]]
        node = Node(moves, forbidden, clauses)
        moves.clear()
        forbidden.append("?x")
        clauses[0].pop()
        clauses.append(["?x"])
        self.assertEqual(fields(node), ([("!a", 1)], ["!b"], [["!a", "final"]]))


class GuideTest(unittest.TestCase):
    def assert_no_guide(self, inputs, outputs, nodes):
        self.assertEqual(reason_of(Guide, inputs, outputs, nodes), "no guide")

    def assert_no_node(self, moves, forbidden, clauses):
        """A guide with the input a and b, the output x and two nodes, the first of which is this one."""
        self.assert_no_guide(["a", "b"], ["x"], [Node(moves, forbidden, clauses), Node([], ["!a", "!b", "?x"], [])])

    def assert_no_clauses(self, clauses):
        self.assert_no_node([("!a", 0), ("!b", 1)], ["?x"], clauses)

    def test_fields(self):
        guide = right_guide()
        self.assertEqual((guide.inputs, guide.outputs), (["a", "b"], ["x"]))
        self.assertIsInstance(guide.nodes, list)
        self.assertTrue(all(isinstance(node, Node) for node in guide.nodes))
        self.assertEqual([fields(node) for node in guide.nodes], [fields(node) for node in right_nodes()])

    def test_right_guides(self):
        self.assertEqual(Guide([], [], []).nodes, [])
        self.assertEqual(Guide(["a"], ["x"], []).inputs, ["a"])
        self.assertEqual(len(Guide([], [], [Node([], [], [])]).nodes), 1)
        self.assertEqual(fields(Guide([], [], [Node([], [], [["final"]])]).nodes[0]), ([], [], [["final"]]))
        sides = ["a", "b", "c"], ["x", "y", "z"]
        labels = ["!a", "!b", "!c", "?x", "?y", "?z"]
        self.assertEqual(Guide(*sides, [Node([], labels, [])]).nodes[0].forbidden, labels)
        moves = [(label, 0) for label in labels]
        self.assertEqual(Guide(*sides, [Node(moves, [], [labels + ["final"]])]).nodes[0].moves, moves)

    def test_a_label_is_either_a_move_or_forbidden(self):
        self.assert_no_node([("!a", 0), ("!b", 1)], [], [])
        self.assert_no_node([("!a", 0)], ["?x"], [])
        self.assert_no_node([], [], [])
        self.assert_no_node([("!a", 0), ("!b", 1), ("?x", 0)], ["?x"], [])
        self.assert_no_node([("!a", 0), ("!b", 1)], ["!b", "?x"], [])

    def test_no_label_twice(self):
        self.assert_no_node([("!a", 0), ("!a", 1), ("!b", 1)], ["?x"], [])
        self.assert_no_node([("!a", 0), ("!a", 0), ("!b", 1)], ["?x"], [])
        self.assert_no_node([("!a", 0), ("!a", 1)], ["?x"], [])
        self.assert_no_node([("!a", 0), ("!b", 1)], ["?x", "?x"], [])
        self.assert_no_node([("!a", 0)], ["?x", "?x"], [])

    def test_no_label_that_is_none_of_the_interface(self):
        for wrong in ("!c", "!x", "?a", "tau", "final", "a", "?", ""):
            self.assert_no_node(sorted([("!a", 0), ("!b", 1), (wrong, 1)]), ["?x"], [])
            self.assert_no_node([("!a", 0), ("!b", 1)], sorted(["?x", wrong]), [])
            self.assert_no_node(sorted([("!a", 0), (wrong, 1)]), ["?x"], [])
            self.assert_no_node([("!a", 0), ("!b", 1)], [wrong], [])

    def test_moves_and_forbidden_labels_ascend(self):
        self.assert_no_node([("!b", 0), ("!a", 1)], ["?x"], [])
        self.assert_no_node([("?x", 0), ("!a", 1)], ["!b"], [])
        self.assert_no_node([("!a", 0)], ["?x", "!b"], [])
        self.assert_no_node([], ["!b", "!a", "?x"], [])

    def test_targets_are_there(self):
        for wrong in (2, 3, -1, -2, True, None, "0"):
            self.assert_no_node([("!a", wrong), ("!b", 1)], ["?x"], [])
        self.assert_no_guide(["a"], [], [Node([("!a", 1)], [], [])])
        self.assertEqual(Guide(["a"], [], [Node([("!a", 0)], [], [])]).nodes[0].moves, [("!a", 0)])

    def test_a_wrong_node_behind_others(self):
        self.assert_no_guide(["a", "b"], ["x"], right_nodes() + [Node([], ["!a"], [])])
        self.assert_no_guide(["a", "b"], ["x"], right_nodes()[:2])
        self.assert_no_guide(["a", "b"], ["x"], right_nodes() + [Node([], ["!a", "!b", "?x"], [[]])])

    def test_clauses_ascend(self):
        self.assert_no_clauses([["!b"], ["!a"]])
        self.assert_no_clauses([["final"], ["!a"]])
        self.assert_no_clauses([["!b", "final"], ["!a", "final"]])

    def test_no_empty_clause(self):
        self.assert_no_clauses([[]])
        self.assert_no_clauses([[], ["!a"]])

    def test_items_of_clauses_are_moves_or_final(self):
        for wrong in ("?x", "!c", "?a", "tau", "a", "finals", ""):
            self.assert_no_clauses([[wrong]])
            self.assert_no_clauses([sorted(["!a", wrong])])

    def test_items_of_clauses_ascend_with_final_last(self):
        for wrong in (["!b", "!a"], ["final", "!a"], ["!a", "final", "!b"], ["final", "final"], ["!a", "!a"],
                      ["!a", "!b", "!b"], ["!a", "final", "final"]):
            self.assert_no_clauses([wrong])

    def test_no_clause_has_another_one_as_a_part(self):
        self.assert_no_clauses([["!a"], ["!a", "!b"]])
        self.assert_no_clauses([["!a", "!b"], ["!b"]])
        self.assert_no_clauses([["!a", "!b", "final"], ["!a", "final"]])
        self.assert_no_clauses([["!a", "!b", "final"], ["final"]])
        self.assert_no_clauses([["!a", "!b"], ["!a", "!b", "final"]])

    def test_no_clause_twice(self):
        self.assert_no_clauses([["!a"], ["!a"]])
        self.assert_no_clauses([["!a", "!b"], ["!a", "!b"]])

    def test_at_most_60_nodes(self):
        self.assertEqual(len(Guide(["a"], [], chain(60)).nodes), 60)
        self.assert_no_guide(["a"], [], chain(61))

    def test_inputs_and_outputs_as_those_of_services(self):
        for wrong in (["b", "a"], ["a", "a"], ["a", "b", "c", "d"], [""], ["A"], ["toolongxx"], [0], None):
            self.assert_no_guide(wrong, [], [])
            self.assert_no_guide([], wrong, [])
        self.assert_no_guide(["a"], ["a"], [])
        self.assert_no_guide(["a", "b"], ["b", "x"], [])

    def test_other_kinds_of_values(self):
        for wrong in (None, ("!a", 0), {}, [("!a",)], [("!a", 0, 0)], [["!a", 0]], ["!a"], [(0, "!a")]):
            self.assert_no_node(wrong, ["!b", "?x"], [])
        self.assert_no_node([(0, 0), ("!b", 1)], ["?x"], [])
        self.assert_no_node([(None, 0)], ["!b", "?x"], [])
        for wrong in (None, "?x", [0], [("?x",)], [["?x"]], ("?x",)):
            self.assert_no_node([("!a", 0), ("!b", 1)], wrong, [])
        for wrong in (None, "!a", ["!a"], [("!a",)], [[0]], [[["!a"]]], [None]):
            self.assert_no_clauses(wrong)
        self.assert_no_guide([], [], None)
        self.assert_no_guide([], [], [None])
        self.assert_no_guide([], [], [([], [], [])])

    def test_keeps_nothing_that_was_passed(self):
        inputs, outputs, nodes = ["a", "b"], ["x"], right_nodes()
        guide = Guide(inputs, outputs, nodes)
        before = form(right_guide())
        inputs.append("c")
        outputs.clear()
        nodes[0].moves.clear()
        nodes[0].forbidden.append("?x")
        nodes[0].clauses[0].clear()
        nodes[0].clauses.append(["?x"])
        nodes[1].moves = []
        nodes.pop()
        self.assertEqual(form(guide), before)

    def test_arguments_stay(self):
        inputs, outputs, nodes = ["a", "b"], ["x"], right_nodes()
        guide = Guide(inputs, outputs, nodes)
        form(guide)
        least(guide)
        guide.inputs.append("c")
        guide.nodes[0].moves.clear()
        guide.nodes[1].clauses[0].clear()
        guide.nodes.clear()
        self.assertEqual((inputs, outputs), (["a", "b"], ["x"]))
        self.assertEqual([fields(node) for node in nodes], [fields(node) for node in right_nodes()])

    def test_one_node_twice(self):
        node = Node([("!a", 0)], [], [["!a"]])
        guide = Guide(["a"], [], [node, node])
        guide.nodes[0].moves.clear()
        self.assertEqual(guide.nodes[1].moves, [("!a", 0)])


class FormTest(unittest.TestCase):
    def test_form(self):
        self.assertEqual(form(right_guide()), (
            ("a", "b"), ("x",), (
                ((("!a", 1), ("?x", 0)), ("!b",), (("!a", "?x"), ("!a", "final"))),
                ((("!a", 1), ("!b", 2), ("?x", 1)), (), (("!a", "!b"), ("?x",), ("final",))),
                ((), ("!a", "!b", "?x"), (("final",),)),
            ),
        ))
        self.assertEqual(form(Guide([], ["x"], [])), ((), ("x",), ()))

    def test_tuples_throughout(self):
        def check(value):
            if not isinstance(value, (str, int)):
                self.assertIsInstance(value, tuple)
                for item in value:
                    check(item)
        check(form(right_guide()))
        check(form(build(ask_reply(), example_links())))

    def test_differs_exactly_if_the_guides_differ(self):
        self.assertEqual(form(right_guide()), form(right_guide()))
        other = right_nodes()
        other[0] = Node([("!a", 1), ("?x", 1)], ["!b"], [["!a", "?x"], ["!a", "final"]])
        self.assertNotEqual(form(Guide(["a", "b"], ["x"], other)), form(right_guide()))


class LeastTest(unittest.TestCase):
    def assert_least(self, inputs, outputs, nodes, expected):
        guide = Guide(inputs, outputs, nodes)
        self.assertEqual(form(least(guide)), form(Guide(inputs, outputs, expected)))
        self.assertEqual(form(least(least(guide))), form(least(guide)))
        self.assertEqual(form(guide), form(Guide(inputs, outputs, nodes)))

    def test_a_guide_without_nodes(self):
        self.assert_least(["a"], ["x"], [], [])

    def test_one_that_is_least_already(self):
        self.assert_least(["a", "b"], ["x"], right_nodes(), right_nodes())
        example = build(ask_reply(), example_links())
        self.assertEqual(form(least(example)), form(example))

    def test_alike_nodes_fall_together(self):
        for many in (1, 2, 7, 60):
            self.assert_least(["a"], [], chain(many), [Node([("!a", 0)], [], [["!a"]])])

    def test_nodes_are_told_apart_from_afar(self):
        nodes = chain(6)
        nodes[5] = Node([("!a", 5)], [], [["!a"], ["final"]])
        self.assert_least(["a"], [], nodes, nodes)
        nodes[5] = Node([("!a", 0)], [], [["!a"], ["final"]])
        self.assert_least(["a"], [], nodes, nodes)
        turning = [Node([("!a", (k + 1) % 6)], [], [["!a"]] if k % 2 else [["final"]]) for k in range(6)]
        two = [Node([("!a", 1)], [], [["final"]]), Node([("!a", 0)], [], [["!a"]])]
        self.assert_least(["a"], [], turning, two)

    def test_forbidden_labels_tell_nodes_apart(self):
        nodes = [Node([("!a", 1)], [], []), Node([], ["!a"], [])]
        self.assert_least(["a"], [], nodes, nodes)

    def test_nodes_that_no_moves_lead_to_are_gone(self):
        nodes = [
            Node([("!a", 2)], [], [["!a"]]), Node([("!a", 0)], [], [["final"]]), Node([], ["!a"], [["final"]]),
        ]
        kept = [Node([("!a", 1)], [], [["!a"]]), Node([], ["!a"], [["final"]])]
        self.assert_least(["a"], [], nodes, kept)

    def test_numbers_by_the_shortest_rows(self):
        nodes = [
            Node([("!a", 3), ("!b", 1)], [], [["!a"]]),
            Node([("!a", 0), ("!b", 4)], [], [["!b"]]),
            Node([("!a", 2), ("!b", 2)], [], [["!a", "!b"]]),
            Node([("!a", 4), ("!b", 2)], [], [["final"]]),
            Node([], ["!a", "!b"], [["final"]]),
        ]
        # 3 is met by "!a", 1 by "!b", 4 by "!a", "!a" and 2 by "!a", "!b".
        expected = [
            Node([("!a", 1), ("!b", 2)], [], [["!a"]]),
            Node([("!a", 3), ("!b", 4)], [], [["final"]]),
            Node([("!a", 0), ("!b", 3)], [], [["!b"]]),
            Node([], ["!a", "!b"], [["final"]]),
            Node([("!a", 4), ("!b", 4)], [], [["!a", "!b"]]),
        ]
        self.assert_least(["a", "b"], [], nodes, expected)

    def test_a_node_doubled(self):
        plain = build(ask_reply(), example_links())
        for doubled in range(7):
            with self.subTest(node=doubled):
                self.assertEqual(form(least(with_double(plain, doubled))), form(plain))

    def test_node_0_alike_to_a_later_one(self):
        nodes = [Node([("!a", 1)], [], []), Node([("!a", 2)], [], [["!a"]]), Node([("!a", 1)], [], [])]
        self.assert_least(["a"], [], nodes, [Node([("!a", 1)], [], []), Node([("!a", 0)], [], [["!a"]])])

    def test_direct_example_is_smaller_than_others_with_it(self):
        guide = build(ask_reply(), Links(direct(), direct()))
        self.assertEqual(form(least(guide)), form(guide))
        self.assertEqual(form(least(with_double(with_double(guide, 2), 1))), form(guide))

    def test_belongs_to_the_caller(self):
        guide = right_guide()
        small = least(guide)
        small.nodes[0].moves.clear()
        small.nodes[1].clauses[0].clear()
        small.inputs.clear()
        self.assertEqual(form(guide), form(right_guide()))
        self.assertEqual(form(least(guide)), form(right_guide()))


def with_double(guide, doubled):
    """The guide with one node twice: half of the moves to it lead to the other one of the two."""
    extra = len(guide.nodes)
    nodes = []
    for at, node in enumerate(guide.nodes + [guide.nodes[doubled]]):
        moves = [
            (label, extra if target == doubled and (at + place) % 2 else target)
            for place, (label, target) in enumerate(node.moves)
        ]
        nodes.append(Node(moves, node.forbidden, node.clauses))
    return Guide(guide.inputs, guide.outputs, nodes)


if __name__ == "__main__":
    unittest.main()
