"""The clauses of a node, and what meets them."""

FINAL = "final"


def suits(node, labels, final):
    """True if a state with transitions with just these labels, final or not, is as the node wants it [17]."""
    moving = [label for label, _ in node.moves]
    if not all([label in moving for label in labels]):
        return False
    items = labels + [FINAL] if final else labels
    return meets(items, node.clauses)


def meets(items, clauses):
    """True if each clause has one of these items."""
    return all([any([item in clause for item in items]) for clause in clauses])


def narrowest(clauses):
    """The clauses that have no other one as a part, each once, ascending as lists."""
    once = sorted({tuple(clause) for clause in clauses})
    return [list(clause) for clause in once if not has_other_part(clause, once)]


def has_other_part(clause, clauses):
    """True if another one of the clauses is a part of this one."""
    return any([other != clause and is_part(other, clause) for other in clauses])


def is_part(part, whole):
    """True if all items of the one clause are items of the other."""
    return all([item in whole for item in part])
