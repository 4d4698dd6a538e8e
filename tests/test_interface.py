"""Tests that the names of the document's interface exist as it lists them."""

import importlib
import inspect
import unittest

INTERFACE = {
    "allwhotalk.errors": {
        "TalkError": ["reason"],
        "TextError": ["line", "reason"],
    },
    "allwhotalk.machines": {
        "Service": ["inputs", "outputs", "states", "transitions", "final"],
        "Partner": ["states", "transitions", "final"],
        "Link": ["capacity", "order", "losses", "doubles"],
        "Links": ["to_service", "to_partner"],
        "labels_of": ["service"],
        "is_partner_for": ["service", "partner"],
        "together": ["one", "two"],
        "dual": ["service"],
    },
    "allwhotalk.texts": {
        "service_text": ["service"],
        "partner_text": ["partner"],
        "read_service": ["text"],
        "read_partner": ["text"],
    },
    "allwhotalk.systems": {
        "system_states": ["service", "links"],
        "results": ["service", "links", "state", "label"],
        "service_moves": ["service", "links", "state"],
        "faults": ["service", "links", "state"],
        "is_waiting": ["service", "links", "state"],
        "is_finished": ["service", "links", "state"],
    },
    "allwhotalk.runs": {
        "stuck_run": ["service", "links", "partner"],
        "is_good": ["service", "links", "partner"],
        "is_stuck_run": ["service", "links", "partner", "run"],
        "fault_table": ["service", "links", "partner"],
    },
    "allwhotalk.guides": {
        "Node": ["moves", "forbidden", "clauses"],
        "Guide": ["inputs", "outputs", "nodes"],
        "form": ["guide"],
        "knowledge": ["service", "links", "labels"],
        "build": ["service", "links"],
        "hopeless": ["service", "links"],
        "is_hopeless": ["service", "links", "pairs"],
        "least": ["guide"],
    },
    "allwhotalk.partners": {
        "follows": ["guide", "partner"],
        "following": ["guide", "partner"],
        "is_following": ["guide", "partner", "pairs"],
        "violation": ["guide", "partner"],
        "is_violation": ["guide", "partner", "labels", "state"],
        "most_permissive": ["guide"],
        "chosen": ["guide"],
        "representative": ["guide"],
        "follows_from": ["guide", "partner", "state"],
    },
    "allwhotalk.algebra": {
        "forbid": ["guide", "labels"],
        "join": ["one", "two"],
        "is_within": ["one", "two"],
        "inclusion": ["one", "two"],
        "is_inclusion": ["one", "two", "pairs"],
        "parting": ["one", "two"],
    },
    "allwhotalk.replacing": {
        "can_replace": ["old", "new", "links"],
        "objection": ["old", "new", "links"],
    },
    "allwhotalk.conversations": {
        "Conversation": ["guide"],
    },
}

CONVERSATION_METHODS = {
    "node": ["self"],
    "history": ["self"],
    "record": ["self", "label"],
    "undo": ["self"],
    "copy": ["self"],
    "can_offer": ["self", "labels", "final"],
    "count_rows": ["self", "length"],
}


class InterfaceTest(unittest.TestCase):
    def test_names_and_arguments(self):
        for module_name, listed in INTERFACE.items():
            module = importlib.import_module(module_name)
            for name, arguments in listed.items():
                with self.subTest(module=module_name, name=name):
                    self.assertEqual(list(inspect.signature(getattr(module, name)).parameters), arguments)

    def test_each_is_defined_in_its_file(self):
        for module_name, listed in INTERFACE.items():
            module = importlib.import_module(module_name)
            for name in listed:
                with self.subTest(module=module_name, name=name):
                    self.assertEqual(getattr(module, name).__module__, module_name)
                    self.assertEqual(getattr(module, name).__name__, name)

    def test_each_method_is_defined_in_its_class(self):
        own = vars(importlib.import_module("allwhotalk.conversations").Conversation)
        for name, arguments in CONVERSATION_METHODS.items():
            with self.subTest(name=name):
                self.assertEqual(list(inspect.signature(own[name]).parameters), arguments)


if __name__ == "__main__":
    unittest.main()
