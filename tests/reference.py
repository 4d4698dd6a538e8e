"""What the document says, written down once more, plainly and slowly, to compare the program with.

Sets of system states are frozensets here, and nothing of the package is used but its classes' fields.
"""

import itertools


def interface(service):
    return sorted(["!" + m for m in service.inputs] + ["?" + m for m in service.outputs])


def first_state(links):
    one, two = links.to_service, links.to_partner
    return (0, (), (), (one.losses, two.losses), (one.doubles, two.doubles))


def put(link, contents, message):
    """All contents that putting the message in can give: one, or none if the link is full."""
    if len(contents) >= link.capacity:
        return set()
    if link.order == "row":
        return {contents + (message,)}
    return {tuple(sorted(list(contents) + [message]))}


def take(link, contents, message):
    """All contents that taking the message out can give."""
    places = range(len(contents)) if link.order == "bag" else range(len(contents[:1]))
    return {contents[:k] + contents[k + 1:] for k in places if contents[k] == message}


def results(service, links, state, label):
    s, a, b, losses, doubles = state
    sign, message = label[0], label[1:]
    if sign == "!" and links.to_service.capacity > 0:
        return {(s, c, b, losses, doubles) for c in put(links.to_service, a, message)}
    if sign == "?" and links.to_partner.capacity > 0:
        return {(s, a, c, losses, doubles) for c in take(links.to_partner, b, message)}
    other = {"!": "?", "?": "!"}[sign] + message
    return {(t, a, b, losses, doubles) for x, own, t in service.transitions if (x, own) == (s, other)}


def moves(service, links, state):
    s, a, b, losses, doubles = state
    found = {("tau", (t, a, b, losses, doubles)) for x, own, t in service.transitions if (x, own) == (s, "tau")}
    for message in service.inputs:
        for x, own, t in service.transitions:
            if (x, own) == (s, "?" + message) and links.to_service.capacity > 0:
                for c in take(links.to_service, a, message):
                    found.add((f"service ?{message}", (t, c, b, losses, doubles)))
    for message in service.outputs:
        for x, own, t in service.transitions:
            if (x, own) == (s, "!" + message) and links.to_partner.capacity > 0:
                for c in put(links.to_partner, b, message):
                    found.add((f"service !{message}", (t, a, c, losses, doubles)))
    return found


def faults(links, state):
    found = set()
    for side, link, name in ((0, links.to_service, "service"), (1, links.to_partner, "partner")):
        contents = state[1 + side]
        for at, message in enumerate(contents):
            if state[3][side] > 0:
                less = [m for k, m in enumerate(contents) if k != at]
                found.add((f"lose {message} to {name}", _changed(state, side, less, 3)))
            if state[4][side] > 0 and len(contents) < link.capacity:
                more = list(contents)
                more.insert(at + 1, message)
                found.add((f"double {message} to {name}", _changed(state, side, more, 4)))
    return found


def _changed(state, side, contents, counter):
    parts = list(state)
    parts[1 + side] = tuple(contents)
    left = list(parts[counter])
    left[side] -= 1
    parts[counter] = tuple(left)
    return tuple(parts)


def reachable(service, links):
    return _all_from({first_state(links)}, lambda state: _targets(service, links, state))


def _targets(service, links, state):
    found = {target for _, target in moves(service, links, state) | faults(links, state)}
    for label in interface(service):
        found |= results(service, links, state, label)
    return found


def _all_from(start, targets):
    found = set()
    border = set(start)
    while border:
        found |= border
        border = {target for state in border for target in targets(state)} - found
    return found


def is_waiting(service, links, state):
    return not moves(service, links, state)


def is_finished(service, state):
    return state[0] in service.final and state[1] == () and state[2] == ()


def enabled(service, links, state):
    return [label for label in interface(service) if results(service, links, state, label)]


def steps(service, links, partner, configuration):
    state, p = configuration
    found = {(action, target, p) for action, target in moves(service, links, state) | faults(links, state)}
    for source, label, q in partner.transitions:
        if source == p:
            found |= {(label, target, q) for target in results(service, links, state, label)}
    return found


def is_stuck(service, links, partner, configuration):
    state, p = configuration
    if not is_waiting(service, links, state):
        return False
    can = enabled(service, links, state)
    if any(source == p and label in can for source, label, _ in partner.transitions):
        return False
    return not (is_finished(service, state) and p in partner.final)


def least_steps_to_stuck(service, links, partner):
    """The number of triples of a shortest stuck run, None if there is none."""
    found, border, length = set(), {(first_state(links), 0)}, 0
    while border:
        if any(is_stuck(service, links, partner, here) for here in border):
            return length
        found |= border
        border = {(x, q) for here in border for _, x, q in steps(service, links, partner, here)} - found
        length += 1
    return None


def closure(service, links, states):
    return frozenset(
        _all_from(states, lambda x: {target for _, target in moves(service, links, x) | faults(links, x)})
    )


def led(service, links, states, label):
    return closure(service, links, {y for x in states for y in results(service, links, x, label)})


def knowledge(service, links, labels):
    states = closure(service, links, {first_state(links)})
    for label in labels:
        states = led(service, links, states, label)
    return states


def graph(service, links):
    """Each set to which labels lead from the first knowledge, with the set behind each label."""
    found = {}
    border = [knowledge(service, links, [])]
    while border:
        states = border.pop()
        if states not in found:
            found[states] = {label: led(service, links, states, label) for label in interface(service)}
            border.extend(found[states].values())
    return found


def bad_sets(service, links, sets):
    bad = set()
    while True:
        more = {states for states in sets if _is_bad(service, links, states, sets[states], bad)}
        if more <= bad:
            return bad
        bad |= more


def _is_bad(service, links, states, behind, bad):
    for x in states:
        if is_waiting(service, links, x) and not is_finished(service, x):
            if all(behind[label] in bad for label in enabled(service, links, x)):
                return True
    return False


def guide(service, links):
    """The form of the guide of point 15."""
    sets = graph(service, links)
    bad = bad_sets(service, links, sets)
    sides = (tuple(service.inputs), tuple(service.outputs))
    first = knowledge(service, links, [])
    if first in bad:
        return sides + ((),)
    good = {x: {l: y for l, y in sets[x].items() if y not in bad} for x in sets if x not in bad}
    order = numbering(first, good)
    nodes = []
    for states in order:
        allowed = good[states]
        nodes.append((
            tuple((label, order.index(allowed[label])) for label in sorted(allowed)),
            tuple(label for label in interface(service) if label not in allowed),
            clauses(service, links, states, allowed),
        ))
    return sides + (tuple(nodes),)


def numbering(first, moves_of):
    """The nodes by the length of the shortest rows of moves to them, then by the first such row."""
    rows = {first: ()}
    border = {(): first}
    while border:
        further = {}
        for labels, node in border.items():
            for label, target in moves_of[node].items():
                if target not in rows:
                    further[labels + (label,)] = target
        border = {}
        for labels in sorted(further):
            if further[labels] not in rows:
                rows[further[labels]] = labels
                border[labels] = further[labels]
    return sorted(rows, key=lambda node: (len(rows[node]), rows[node]))


def clauses(service, links, states, allowed):
    found = set()
    for x in states:
        if is_waiting(service, links, x):
            items = {label for label in enabled(service, links, x) if label in allowed}
            found.add(frozenset(items | ({"final"} if is_finished(service, x) else set())))
    kept = [clause for clause in found if not any(other < clause for other in found)]
    return tuple(sorted(tuple(sorted(clause)) for clause in kept))


def follows(form, partner, node=0):
    """True if the partner follows the guide of this form [17]."""
    nodes = form[2]
    if not nodes:
        return False
    found, border = set(), {(0, node)}
    while border:
        found |= border
        further = set()
        for p, n in border:
            targets, forbidden, needs = dict(nodes[n][0]), nodes[n][1], nodes[n][2]
            own = [(label, q) for source, label, q in partner.transitions if source == p]
            if any(label in forbidden for label, _ in own):
                return False
            has = {label for label, _ in own} | ({"final"} if p in partner.final else set())
            if any(not has & set(clause) for clause in needs):
                return False
            further |= {(q, targets[label]) for label, q in own}
        border = further - found
    return True


def is_right_hopeless(service, links, pairs):
    """True for a right hopeless list [20] of pairs of a list and one more."""
    if not pairs or frozenset(pairs[0][0]) != knowledge(service, links, []):
        return False
    for at, (states, element) in enumerate(pairs):
        if sorted(set(states)) != states or closure(service, links, states) != frozenset(states):
            return False
        if element not in states or is_finished(service, element) or not is_waiting(service, links, element):
            return False
        later = [frozenset(pair[0]) for pair in pairs[at + 1:]]
        for label in enabled(service, links, element):
            if led(service, links, states, label) not in later:
                return False
    return True


def least(form):
    """The form of the least guide of a guide with this form: nodes are told apart pair by pair."""
    nodes = form[2]
    if not nodes:
        return form
    pairs = list(itertools.product(range(len(nodes)), repeat=2))
    apart = {(m, n) for m, n in pairs if nodes[m][1:] != nodes[n][1:]}
    while True:
        more = {
            (m, n) for m, n in pairs if (m, n) not in apart
            and any((x, y) in apart for (_, x), (_, y) in zip(nodes[m][0], nodes[n][0]))
        }
        if not more:
            break
        apart |= more
    part = [min(m for m in range(len(nodes)) if (m, n) not in apart) for n in range(len(nodes))]
    moves_of = {n: {label: part[t] for label, t in nodes[n][0]} for n in set(part)}
    order = numbering(0, moves_of)
    told = []
    for n in order:
        told.append((tuple((label, order.index(part[t])) for label, t in nodes[n][0]),) + nodes[n][1:])
    return form[:2] + (tuple(told),)
