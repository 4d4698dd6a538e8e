"""Conversations: one exchange that is followed through a guide."""

from allwhotalk.clauses import suits
from allwhotalk.errors import TalkError
from allwhotalk.guides import Guide

_MOST_LABELS = 200


class Conversation:
    """A conversation [28]."""

    def __init__(self, guide):
        if len(guide.nodes) == 0:
            raise TalkError("no nodes")
        # A copy, so that a later change of the guide that was passed has no effect here.
        self._guide = Guide(guide.inputs, guide.outputs, guide.nodes)
        self._labels = []
        # The nodes on the way, from node 0 to the present one.
        self._path = [0]

    def node(self):
        """The number of the node."""
        return self._path[-1]

    def history(self):
        """The list of the labels that were recorded."""
        return list(self._labels)

    def record(self, label):
        """Records a label of the interface and returns the node behind it."""
        targets = dict(self._guide.nodes[self.node()].moves)
        if label not in targets:
            raise TalkError("forbidden")
        if len(self._labels) >= _MOST_LABELS:
            raise TalkError("history is full")
        self._labels.append(label)
        self._path.append(targets[label])
        return self.node()

    def undo(self):
        """Takes back the last label and returns it."""
        if len(self._labels) == 0:
            raise TalkError("nothing to undo")
        self._path.pop()
        return self._labels.pop()

    def copy(self):
        """A conversation at the same point that goes on on its own."""
        other = Conversation(self._guide)
        other._labels = list(self._labels)
        other._path = list(self._path)
        return other

    def can_offer(self, labels, final):
        """True if a partner can have transitions with just these labels here, in a state that is final or not."""
        return suits(self._guide.nodes[self.node()], labels, final)

    def count_rows(self, length):
        """How many rows of so many labels are moves, one behind the other, from the node on."""
        ends = {self.node(): 1}
        for _ in range(length):
            ends = self._a_move_further(ends)
        return sum(ends.values())

    def _a_move_further(self, ends):
        """The number of rows to each node, if these are the numbers of rows that are one label shorter."""
        further = {}
        for n, many in ends.items():
            for _, target in self._guide.nodes[n].moves:
                further[target] = further.get(target, 0) + many
        return further
