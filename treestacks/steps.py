"""Steps from kinds to kinds: a list that has for each kind a list of those to which it leads."""


def endless_kind(steps):
    """Return the least kind that comes back to itself by one or more steps, or None."""
    for kind in range(len(steps)):
        if kind in kinds_behind(steps, kind):
            return kind
    return None


def kinds_behind(steps, kind):
    """List the kinds to which kind comes by one or more steps."""
    found = []
    waiting = [kind]
    while waiting:
        at = waiting.pop()
        for one in steps[at]:
            if one not in found:
                found.append(one)
                waiting.append(one)
    return found


def kinds_in_order(steps):
    """List all kinds, each behind those to which it leads.

    This ends if no kind comes back to itself.
    """
    order = []
    while len(order) < len(steps):
        for kind in range(len(steps)):
            if kind not in order and all([one in order for one in steps[kind]]):
                order.append(kind)
    return order
