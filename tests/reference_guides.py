"""What the document says of guides and their followers, written down once more, plainly and slowly.

Guides are given by their forms here, and nothing of the package is used but its classes' fields.
"""

import itertools

from reference import numbering


def subsets(items):
    """All sets of these items, small ones first."""
    return [frozenset(some) for size in range(len(items) + 1) for some in itertools.combinations(items, size)]


def items_at(partner, p):
    """The labels of the transitions from p, and "final" if p is final."""
    found = {label for source, label, _ in partner.transitions if source == p}
    return found | ({"final"} if p in partner.final else set())


def is_fault(form, partner, p, n):
    """True if a transition from p has a forbidden label at n, or a clause of n is not met [19]."""
    _, forbidden, clauses = form[2][n]
    items = items_at(partner, p)
    return any(label in items for label in forbidden) or any(not items & set(clause) for clause in clauses)


def steps(form, partner, p, n):
    """The triples (label, p, n) behind one label that both have."""
    moves = dict(form[2][n][0])
    return [(label, q, moves[label]) for x, label, q in partner.transitions if x == p and label in moves]


def is_right_following(form, partner, pairs):
    """True for a following [17]."""
    if (0, 0) not in pairs:
        return False
    for p, n in pairs:
        if not 0 <= p < partner.states or not 0 <= n < len(form[2]) or is_fault(form, partner, p, n):
            return False
        if any((q, m) not in pairs for _, q, m in steps(form, partner, p, n)):
            return False
    return True


def least_labels_to_fault(form, partner):
    """The number of labels of a shortest violation, None if there is none."""
    found, border, length = set(), {(0, 0)} if form[2] else set(), 0
    while border:
        if any(is_fault(form, partner, p, n) for p, n in border):
            return length
        found |= border
        border = {(q, m) for p, n in border for _, q, m in steps(form, partner, p, n)} - found
        length += 1
    return None


def is_right_violation(form, partner, labels, state):
    """True for a violation [19]."""
    if not form[2]:
        return False
    node, states = 0, {0}
    for label in labels:
        moves = dict(form[2][node][0])
        if label not in moves:
            return False
        node = moves[label]
        states = {q for p, own, q in partner.transitions if p in states and own == label}
    return state in states and is_fault(form, partner, state, node)


def most_permissive(form):
    """The states, transitions and final states of the most permissive partner."""
    transitions = [(n, label, m) for n, node in enumerate(form[2]) for label, m in node[0]]
    return (len(form[2]), sorted(transitions), list(range(len(form[2]))))


def chosen(form):
    """The states, transitions and final states of the chosen partner."""
    picks = [_picks(node[2]) for node in form[2]]
    moves_of = [{label: m for label, m in node[0] if label in picks[n]} for n, node in enumerate(form[2])]
    order = numbering(0, moves_of)
    transitions = []
    for n in order:
        transitions.extend([(order.index(n), label, order.index(m)) for label, m in moves_of[n].items()])
    return (len(order), sorted(transitions), [k for k, n in enumerate(order) if "final" in picks[n]])


def _picks(clauses):
    picks = set()
    for clause in clauses:
        if not picks & set(clause):
            picks.add("final" if "final" in clause else clause[0])
    return picks


def offers(node):
    """The sets of point 25 at a node, as ascending lists, ascending."""
    items = [label for label, _ in node[0]] + ["final"]
    hitting = [some for some in subsets(items) if all(some & set(clause) for clause in node[2])]
    least = [some for some in hitting if not any(some - {item} in hitting for item in some)]
    return sorted(sorted(some) for some in set(least) | {frozenset(items)})


def representative(form):
    """The states, transitions and final states of the representative, and its starts."""
    pairs = [(n, offer) for n, node in enumerate(form[2]) for offer in offers(node)]
    transitions = []
    for at, (n, offer) in enumerate(pairs):
        moves = dict(form[2][n][0])
        for there, (m, _) in enumerate(pairs):
            transitions.extend([(at, label, there) for label in offer if label in moves and moves[label] == m])
    final = [at for at, (_, offer) in enumerate(pairs) if "final" in offer]
    starts = [at for at, (n, _) in enumerate(pairs) if n == 0]
    return (len(pairs), sorted(transitions), final), starts


def forbid(form, labels):
    """The form of the result of forbidding [22]."""
    nodes = {}
    for n, (moves, _, clauses) in enumerate(form[2]):
        nodes[n] = ({l: m for l, m in moves if l not in labels}, {frozenset(c) - set(labels) for c in clauses})
    return _without_bad(form, nodes, 0)


def pairs_of(one, two):
    """All pairs of nodes to which moves lead from the pair of both nodes 0."""
    found, border = set(), {(0, 0)} if one[2] and two[2] else set()
    while border:
        found |= border
        border = {there for pair in border for there in _common_moves(one, two, pair).values()} - found
    return found


def join(one, two):
    """The form of the result of joining [23]."""
    nodes = {}
    for pair in pairs_of(one, two):
        moves = _common_moves(one, two, pair)
        allowed = set(moves) | {"final"}
        clauses = one[2][pair[0]][2] + two[2][pair[1]][2]
        nodes[pair] = (moves, {frozenset(clause) & allowed for clause in clauses})
    return _without_bad(one, nodes, (0, 0))


def _common_moves(one, two, pair):
    left, right = dict(one[2][pair[0]][0]), dict(two[2][pair[1]][0])
    return {label: (left[label], right[label]) for label in left if label in right}


def _without_bad(form, nodes, first):
    """The form of what is left: nodes are dicts of moves and sets of clauses here."""
    interface = sorted(["!" + m for m in form[0]] + ["?" + m for m in form[1]])
    bad = set()
    while True:
        more = {n for n in nodes if _is_bad(*nodes[n], bad)}
        if more == bad:
            break
        bad = more
    if first not in nodes or first in bad:
        return form[:2] + ((),)
    good = {n: {l: m for l, m in nodes[n][0].items() if m not in bad} for n in nodes if n not in bad}
    order = numbering(first, good)
    told = []
    for n in order:
        allowed = set(good[n]) | {"final"}
        clauses = {clause & allowed for clause in nodes[n][1]}
        kept = [sorted(clause) for clause in clauses if not any(other < clause for other in clauses)]
        told.append((
            tuple((label, order.index(good[n][label])) for label in sorted(good[n])),
            tuple(label for label in interface if label not in good[n]),
            tuple(tuple(clause) for clause in sorted(kept)),
        ))
    return form[:2] + (tuple(told),)


def _is_bad(moves, clauses, bad):
    allowed = {label for label, m in moves.items() if m not in bad} | {"final"}
    return any(not clause & allowed for clause in clauses)


def is_within(one, two):
    """True if the one guide is within the other [24]: the greatest relation is looked at, not the least."""
    if not one[2] or not two[2]:
        return not one[2]
    pairs = set(itertools.product(range(len(one[2])), range(len(two[2]))))
    while True:
        kept = {pair for pair in pairs if _may_stay(one, two, pair, pairs)}
        if kept == pairs:
            return (0, 0) in pairs
        pairs = kept


def is_right_inclusion(one, two, pairs):
    """True for an inclusion [24]."""
    if (0, 0) not in pairs:
        return False
    for x, y in pairs:
        if not 0 <= x < len(one[2]) or not 0 <= y < len(two[2]) or not _may_stay(one, two, (x, y), pairs):
            return False
    return True


def _may_stay(one, two, pair, pairs):
    (left, _, having), (right, _, wanted) = one[2][pair[0]], two[2][pair[1]]
    right = dict(right)
    if any(label not in right or (target, right[label]) not in pairs for label, target in left):
        return False
    return all(any(set(own) <= set(clause) for own in having) for clause in wanted)


def count_rows(form, node, length):
    """The number of rows of so many labels that are moves, one behind the other: each row is tried."""
    labels = sorted({label for other in form[2] for label, _ in other[0]})
    return sum(_leads(form, node, row) for row in itertools.product(labels, repeat=length))


def _leads(form, node, row):
    for label in row:
        moves = dict(form[2][node][0])
        if label not in moves:
            return False
        node = moves[label]
    return True


def can_offer(form, node, labels, final):
    """True if the labels are moves and meet each clause, together with "final", if so."""
    moves, _, clauses = form[2][node]
    items = set(labels) | ({"final"} if final else set())
    return set(labels) <= set(dict(moves)) and all(items & set(clause) for clause in clauses)
