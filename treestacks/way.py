"""The way by which trees are led into pairs: the rules that each tree needs, and where its grafts stand in them.

A member is what some knots are led to, a tuple (kind, at): a kind of its own, at None, or the kind of the graft
that is number at among those of its tree. It is None where nothing stands.
"""

from treestacks.knots import all_knots, graft_kinds


class OwnRules:
    """The rules that have kinds of their own, in the order in which they come to be needed."""

    def __init__(self, kinds):
        self.first_kind = kinds
        self.rules = []
        # For each rule the grafts whose kinds its parts are, None for a part that is a kind of its own.
        self.grafts = []

    def put_word(self, word):
        """Put a rule for word behind the others; return the member that it makes."""
        return self.put_rule(("left", word), ())

    def put_step(self, shape, members):
        """Put a rule of this shape and of these members behind the others; return the member that it makes."""
        kinds = [kind for kind, _ in members]
        return self.put_rule((shape, *kinds), tuple([at for _, at in members]))

    def put_rule(self, rest, grafts):
        """Put a rule that has rest behind its kind behind the others; return the member that it makes."""
        kind = self.first_kind + len(self.rules)
        self.rules.append((kind, *rest))
        self.grafts.append(grafts)
        return (kind, None)

    def take_last(self):
        """Take the rule that was put last out again; return what it has behind its kind, and its grafts."""
        rule = self.rules.pop()
        return (rule[1:], self.grafts.pop())


def way_of(trees):
    """Return the number of kinds, the rules and, for each rule, the grafts whose kinds its parts are.

    The rule of the number of a tree is the last one of this tree. Behind these stand the rules that have kinds of
    their own, ascending by kind. A part that is a kind of its own has None instead of a graft.
    """
    own = OwnRules(trees.kinds)
    rules = []
    grafts = []
    for kind, knot in trees.trees:
        rest, rest_grafts = last_step(own, knot)
        rules.append((kind, *rest))
        grafts.append(rest_grafts)
    return (trees.kinds + len(own.rules), tuple(rules + own.rules), grafts + own.grafts)


def last_step(own, knot):
    """Put all rules but the last one of the tree of this knot; return the rest of the last one, and its grafts."""
    kind, at = member_of_knot(own, knot, 0)
    if at is not None:
        return (("same", kind), (at,))
    # A rule is put behind those of its parts, so that of the whole tree was put last.
    return own.take_last()


def member_of_knot(own, knot, at):
    """Return the member to which knot is led; at is the number of the first graft in it or behind it."""
    if knot[0] == "word":
        return own.put_word(knot[1])
    if knot[0] == "foot":
        return None
    if knot[0] == "plain":
        return member_of_row(own, knot[1], at)
    graft = (knot[1], at)
    inner = member_of_row(own, knot[2], at + 1)
    return graft if inner is None else own.put_step("wrap", (graft, inner))


def member_of_row(own, knots, at):
    """Return the member to which a row of knots is led, as member_of_knot does."""
    members = []
    foot = None
    for place, knot in enumerate(knots):
        members.append(member_of_knot(own, knot, at))
        at += len(graft_kinds(knot))
        if ("foot",) in all_knots(knot):
            foot = place
    if foot is None:
        return text_of_members(own, members)
    stands = members[foot]
    for member in reversed(members[:foot]):
        stands = put_beside(own, stands, member, "first", "ahead")
    for member in members[foot + 1:]:
        stands = put_beside(own, stands, member, "last", "behind")
    return stands


def text_of_members(own, members):
    """Return the member that gives the text of members, from the left."""
    stands = None
    for member in members:
        if stands is None:
            stands = member
        elif member is not None:
            stands = own.put_step("behind", (stands, member))
    return stands


def put_beside(own, stands, member, shape, other_shape):
    """Return what stands when member is put beside it, by the one shape if nothing stands yet, else by the other."""
    if member is None:
        return stands
    if stands is None:
        return own.put_step(shape, (member,))
    return own.put_step(other_shape, (stands, member))
