"""The LISTs of a TREE as paths through a graph.

A node is the number, from 1 on, of a member that stands in the TREE, counted from
the left. Each LIST is the row of the members on a path from START to END, and each
such path gives a LIST.
"""

from stillgood.trees import MARK, members_in
from stillgood.values import ascending

START = 0
END = -1


class Graph:
    """The members of a TREE by their nodes, and the nodes to which each node leads."""

    def __init__(self, tree):
        self.members = dict(enumerate(members_in(tree), start=1))
        steps = [*links([START], first_nodes(tree, 1)), *inner_steps(tree, 1), *links(last_nodes(tree, 1), [END])]
        if can_be_empty(tree):
            steps.append((START, END))
        self.nexts = {node: ascending([step[1] for step in steps if step[0] == node])
                      for node in [START, *self.members, END]}

    def marks(self):
        """The nodes of the marks."""
        return [node for node, member in self.members.items() if member == MARK]

    def calls_at(self, nodes):
        """The CALLs at those of the nodes that have one, ascending."""
        found = [self.members[node] for node in nodes if node in self.members]
        return ascending([member for member in found if member != MARK])

    def reached(self, start, stops):
        """The nodes to which paths of one or more steps lead that go on behind none of the stops."""
        found = {}
        waiting = [start]
        while waiting != []:
            node = waiting.pop()
            ahead = [later for later in self.nexts[node] if later not in found]
            for later in ahead:
                found[later] = True
            waiting.extend([later for later in ahead if later not in stops])
        return list(found)

    def can_end(self, nodes):
        """Whether a LIST can end behind one of the nodes."""
        return any([END in self.nexts[node] for node in nodes])

    def behind(self, nodes, member):
        """The nodes of this member to which a step leads from one of the nodes."""
        ahead = [later for node in nodes for later in self.nexts[node]]
        return ascending([later for later in ahead if later != END and self.members[later] == member])


def links(ends, starts):
    """The pairs of each one of the ends and each one of the starts."""
    return [(end, start) for end in ends for start in starts]


def can_be_empty(tree):
    """Whether () is a LIST of the TREE."""
    if tree[0] == "then":
        return can_be_empty(tree[1]) and can_be_empty(tree[2])
    if tree[0] == "or":
        return can_be_empty(tree[1]) or can_be_empty(tree[2])
    return tree[0] in ("nothing", "again")


def behind_one(tree, at):
    """The first node of the TREE two of a "then" or an "or" whose own first node this is."""
    return at + len(members_in(tree[1]))


def first_nodes(tree, at):
    """The nodes with which LISTs of the TREE begin, if its first node is this one."""
    if tree[0] in ("call", "mark"):
        return [at]
    if tree[0] == "nothing":
        return []
    found = first_nodes(tree[1], at)
    if tree[0] == "or" or tree[0] == "then" and can_be_empty(tree[1]):
        return found + first_nodes(tree[2], behind_one(tree, at))
    return found


def last_nodes(tree, at):
    """The nodes with which LISTs of the TREE end, if its first node is this one."""
    if tree[0] in ("call", "mark"):
        return [at]
    if tree[0] == "nothing":
        return []
    if tree[0] == "again":
        return last_nodes(tree[1], at)
    found = last_nodes(tree[2], behind_one(tree, at))
    if tree[0] == "or" or can_be_empty(tree[2]):
        return last_nodes(tree[1], at) + found
    return found


def inner_steps(tree, at):
    """The pairs of nodes that can stand next to each other in LISTs of the TREE, if its first node is this one."""
    if tree[0] in ("call", "mark", "nothing"):
        return []
    if tree[0] == "again":
        return inner_steps(tree[1], at) + links(last_nodes(tree[1], at), first_nodes(tree[1], at))
    middle = behind_one(tree, at)
    found = inner_steps(tree[1], at) + inner_steps(tree[2], middle)
    if tree[0] == "then":
        return found + links(last_nodes(tree[1], at), first_nodes(tree[2], middle))
    return found


def distances(nexts, goal):
    """A dict from each node that leads to the goal to the least number of steps."""
    found = {goal: 0}
    steps, layer = 0, [goal]
    while layer != []:
        steps = steps + 1
        layer = [node for node in nexts if node not in found and any([later in found for later in nexts[node]])]
        for node in layer:
            found[node] = steps
    return found


def lists_within(graph, most):
    """The ascending list of the LISTs with at most so many members."""
    far = distances(graph.nexts, END)
    found = []
    waiting = [((), (START,))]
    while waiting != []:
        path, nodes = waiting.pop()
        if graph.can_end(nodes):
            found.append(path)
        ahead = [later for node in nodes for later in graph.nexts[node]]
        # A node that is too far away from the END is not gone to: each path leads to a LIST.
        near = [later for later in ahead if later != END and len(path) + far[later] <= most]
        for member in ascending([graph.members[node] for node in near]):
            waiting.append(((*path, member), ascending([node for node in near if graph.members[node] == member])))
    return sorted(found)


def is_within(one, other):
    """Whether each LIST of the one graph is a LIST of the other."""
    seen = {}
    waiting = [(START, (START,))]
    while waiting != []:
        pair = waiting.pop()
        node, nodes = pair
        if pair not in seen:
            seen[pair] = True
            if one.can_end([node]) and not other.can_end(nodes):
                return False
            waiting.extend([(later, other.behind(nodes, one.members[later])) for later in one.nexts[node]
                            if later != END])
    return True


def least_witness(graph, call, other, unmarked):
    """The least LIST in which the one CALL stands ahead of the other; None if there is none."""
    nexts = {(phase, node): [(behind, later) for later in graph.nexts[node]
                             for behind in phases_behind(phase, graph.members.get(later), call, other, unmarked)]
             for phase in (0, 1, 2) for node in graph.nexts}
    far = distances(nexts, (2, END))
    if (0, START) not in far:
        return None
    states, found = ((0, START),), ()
    for left in range(far[0, START] - 1, 0, -1):
        ahead = [later for state in states for later in nexts[state] if far.get(later) == left]
        member = min([graph.members[node] for _, node in ahead])
        states = ascending([state for state in ahead if graph.members[state[1]] == member])
        found = (*found, member)
    return found


def phases_behind(phase, member, call, other, unmarked):
    """What may have been seen behind a member: in phase 1 a CALL that is the first of two, in phase 2 both of them."""
    if phase == 0:
        return [0, 1] if member == call else [0]
    if phase == 1 and member == other:
        return [2]
    return [] if phase == 1 and unmarked and member == MARK else [phase]
