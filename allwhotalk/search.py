"""From place to place by steps that have names, the shortest ways first."""


def explore(first, steps_from, is_wanted):
    """The places that are found on the way to the nearest wanted one, and that one, or None if there is none.

    steps_from gives the pairs (name, place) of the steps from a place, and is_wanted tells if a place is wanted.
    The places are the keys of a dict, in the order in which they were found; each has the pair of the name and
    the place that led to it, the first one None.
    """
    before = {first: None}
    queue = [first]
    at = 0
    while at < len(queue):
        here = queue[at]
        if is_wanted(here):
            return before, here
        for name, there in steps_from(here):
            if there not in before:
                before[there] = (name, here)
                queue.append(there)
        at += 1
    return before, None


def way_to(before, place):
    """The pairs (name, place) of the steps that lead from the first place to one that explore found."""
    way = []
    here = place
    while before[here] is not None:
        name, earlier = before[here]
        way.append((name, here))
        here = earlier
    way.reverse()
    return way


def reached(first, steps_from):
    """All places to which steps lead from the first one, itself included.

    They stand in the order of [15], if the steps from a place have different names that ascend.
    """
    before, _ = explore(first, steps_from, lambda place: False)
    return list(before)
