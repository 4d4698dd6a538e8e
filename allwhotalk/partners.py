"""Partners and guides: who follows, what speaks against it, and partners made from a guide."""

from itertools import combinations

from allwhotalk.clauses import FINAL, meets, suits
from allwhotalk.errors import TalkError
from allwhotalk.machines import Partner, transitions_from
from allwhotalk.pairs import Pairing, is_relation, relation_from
from allwhotalk.search import explore, reached, way_to


class PartnerBeside(Pairing):
    """A partner beside a guide."""

    def __init__(self, guide, partner):
        Pairing.__init__(self, transitions_from(partner), guide)
        self.labels = [sorted({label for label, _ in row}) for row in self.own]
        self.final = list(partner.final)

    def is_fault(self, pair):
        """True if the transitions of the state are not as the node wants them."""
        p, n = pair
        return not suits(self.nodes[n], self.labels[p], p in self.final)


def follows(guide, partner):
    """True if the partner follows the guide [17]."""
    return follows_from(guide, partner, 0)


def following(guide, partner):
    """A following of the partner [17], ascending; None if there is none."""
    return _following_from(guide, partner, 0)


def is_following(guide, partner, pairs):
    """True if this list of pairs of numbers is a following of the partner [17]."""
    return is_relation(PartnerBeside(guide, partner), pairs)


def violation(guide, partner):
    """A violation [19] with as few labels as possible; None if there is none."""
    if len(guide.nodes) == 0:
        return None
    beside = PartnerBeside(guide, partner)
    before, fault = explore((0, 0), beside.steps, beside.is_fault)
    if fault is None:
        return None
    return [label for label, _ in way_to(before, fault)], fault[0]


def is_violation(guide, partner, labels, state):
    """True if these labels and this state of the partner are a violation [19]."""
    if len(guide.nodes) == 0:
        return False
    beside = PartnerBeside(guide, partner)
    pairs = [(0, 0)]
    for label in labels:
        pairs = sorted({there for pair in pairs for own, there in beside.steps(pair) if own == label})
    return any([pair[0] == state and beside.is_fault(pair) for pair in pairs])


def most_permissive(guide):
    """The partner whose states are the nodes, with all moves, and all states final."""
    _refuse_none(guide)
    many = len(guide.nodes)
    transitions = [(n, label, target) for n in range(many) for label, target in guide.nodes[n].moves]
    return Partner(many, transitions, list(range(many)))


def chosen(guide):
    """The partner that has at each node only what is chosen there, clause by clause."""
    _refuse_none(guide)
    choices = [_choice_at(node) for node in guide.nodes]
    moves = [_moves_among(node, choice) for node, choice in zip(guide.nodes, choices)]
    order = reached(0, lambda place: moves[place])
    numbers = {n: at for at, n in enumerate(order)}
    transitions = [(numbers[n], label, numbers[target]) for n in order for label, target in moves[n]]
    final = [numbers[n] for n in order if FINAL in choices[n]]
    return Partner(len(order), transitions, final)


def representative(guide):
    """The representative of the guide [25] and the list of its starts."""
    _refuse_none(guide)
    offers = [_least_and_full_offers(node) for node in guide.nodes]
    states = [(n, offer) for n in range(len(offers)) for offer in offers[n]]
    at_node = [[] for _ in guide.nodes]
    for at, (n, _) in enumerate(states):
        at_node[n].append(at)
    transitions = []
    for at, (n, offer) in enumerate(states):
        for label, target in _moves_among(guide.nodes[n], offer):
            transitions.extend([(at, label, there) for there in at_node[target]])
    final = [at for at, (_, offer) in enumerate(states) if FINAL in offer]
    return Partner(len(states), transitions, final), at_node[0]


def follows_from(guide, partner, state):
    """True if the partner follows the guide with this state as its initial one."""
    return _following_from(guide, partner, state) is not None


def _following_from(guide, partner, state):
    """The smallest relation as in [17] that has the pair of this state and node 0; None if there is none."""
    if len(guide.nodes) == 0:
        return None
    return relation_from(PartnerBeside(guide, partner), (state, 0))


def _refuse_none(guide):
    if len(guide.nodes) == 0:
        raise TalkError("no nodes")


def _choice_at(node):
    """The labels that are chosen at a node, and "final", if it is chosen."""
    choice = []
    for clause in node.clauses:
        if not any([item in clause for item in choice]):
            choice.append(FINAL if FINAL in clause else clause[0])
    return choice


def _moves_among(node, items):
    return [move for move in node.moves if move[0] in items]


def _least_and_full_offers(node):
    """The sets of [25] at a node, each as an ascending list, ascending."""
    full = [label for label, _ in node.moves] + [FINAL]
    offers = [full]
    for size in range(len(full)):
        for items in combinations(full, size):
            if _is_least_offer(items, node.clauses):
                offers.append(list(items))
    return sorted(offers)


def _is_least_offer(items, clauses):
    """True if each clause has one of these items, but no longer if any of them is left out."""
    if not meets(items, clauses):
        return False
    return not any([meets(items[:at] + items[at + 1:], clauses) for at in range(len(items))])
