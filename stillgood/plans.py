"""Plans: lists of CALLs with choices and repetitions, all of which are decided at once."""

from stillgood.calls import checked_calls, checked_lines
from stillgood.errors import BadPlan, NoGap, NoLine
from stillgood.graphs import END, START, Graph, is_within, least_witness, lists_within
from stillgood.harm import can_harm, harm_store, harms
from stillgood.places import all_choices, by_size, least_ones, place_pairs
from stillgood.trees import MARK, gaps_in, is_tree, marked_tree, members_in, repeated
from stillgood.values import ascending, tupled


class Plan:
    """A TREE, which describes LISTs of CALLs and marks; it never changes."""

    def __init__(self, tree):
        checked = tupled(tree)
        if not is_tree(checked):
            raise BadPlan()
        self._tree = checked
        self._graph = Graph(checked)

    @property
    def tree(self):
        """The TREE."""
        return self._tree

    @property
    def calls(self):
        """The CALLs that stand in it."""
        return ascending(calls_in(self._tree))

    @property
    def heads(self):
        """The CALLs that stand in some LIST with no mark ahead of them."""
        return self._graph.calls_at(self._graph.reached(START, self._graph.marks()))

    @property
    def tails(self):
        """The CALLs that stand in some LIST with no mark behind them."""
        marks = self._graph.marks()
        return self._graph.calls_at([node for node in self._graph.members if END in self._graph.reached(node, marks)])

    def __len__(self):
        return len(calls_in(self._tree))

    def __contains__(self, x):
        return tupled(x) in calls_in(self._tree)

    def __eq__(self, other):
        return isinstance(other, Plan) and self._tree == other._tree

    def __ne__(self, other):
        return not self == other

    def __rshift__(self, other):
        return Plan(("then", self._tree, other._tree))

    def __or__(self, other):
        return Plan(("or", self._tree, other._tree))

    def __mul__(self, other):
        return Plan(repeated(self._tree, other))

    def __rmul__(self, other):
        return Plan(repeated(self._tree, other))

    def again(self):
        """The Plan with all LISTs that consist of LISTs of this one."""
        return Plan(("again", self._tree))

    def within(self, other):
        """Whether each LIST of this Plan is a LIST of the other."""
        return is_within(self._graph, other._graph)

    def alike(self, other):
        """Whether both Plans have the same LISTs."""
        return self.within(other) and other.within(self)

    def lists(self, most):
        """The ascending list of the LISTs with at most so many members."""
        return lists_within(self._graph, most)

    def before(self):
        """The ascending list of the pairs of CALLs of which the one stands ahead of the other in some LIST."""
        return self._call_pairs([])

    def unmarked(self):
        """The pairs of before that have no mark between the two in some LIST."""
        return self._call_pairs(self._graph.marks())

    def _call_pairs(self, stops):
        """The pairs of CALLs of which the one stands ahead of the other, with none of the stops between them."""
        return sorted(set([(call, other) for node in self._graph.members for call in self._graph.calls_at([node])
                           for other in self._graph.calls_at(self._graph.reached(node, stops))]))

    def witness(self, call, other, *, unmarked=False):
        """The least LIST in which call stands ahead of other, if asked for with no mark between; None if none does."""
        return least_witness(self._graph, tupled(call), tupled(other), unmarked)

    def gaps(self):
        """The ascending list of the gaps."""
        return gaps_in(self._tree, ())

    def marked(self, gaps):
        """The Plan with a mark in each of these gaps."""
        chosen = tupled(gaps)
        own = self.gaps()
        for gap in chosen:
            if gap not in own:
                raise NoGap(gap)
        return Plan(marked_tree(self._tree, (), chosen))


def calls_in(tree):
    """The CALLs that stand in the TREE, from the left."""
    return [member for member in members_in(tree) if member != MARK]


def step(call):
    """The Plan of one CALL."""
    return Plan(("call", call))


def nothing():
    """The Plan whose only LIST is ()."""
    return Plan(("nothing",))


def mark():
    """The Plan of one mark."""
    return Plan(("mark",))


def plan_holds(book, plan, lines):
    """Whether the LINES of the CALLs of each LIST hold."""
    return plan_failure(book, plan, lines) is None


def plan_failure(book, plan, lines):
    """The least LIST in which a LINE harms a later one, the least such places in it, and a STORE; or None."""
    told = told_lines(book, plan, lines)
    pairs = [(call, other) for call, other in plan.before() if harms(book, told[call], told[other])]
    if pairs == []:
        return None
    members = by_size([plan.witness(call, other) for call, other in pairs])[0]
    places = [pair for pair in place_pairs(len(members)) if (members[pair[0]], members[pair[1]]) in pairs]
    i, j = places[0]
    return members, i, j, harm_store(book, told[members[i]], told[members[j]])


def told_lines(book, plan, lines):
    """A dict from each CALL of the plan to the first one of the LINES that has it."""
    calls = checked_calls(book, plan.calls)
    found = {}
    for line in checked_lines(book, lines):
        found.setdefault(line[0], line)
    for call in calls:
        if call not in found:
            raise NoLine(call)
    return found


def calm(book, plan):
    """Whether no CALL can harm a later one of the same leg."""
    return harmful_pairs(book, plan) == []


def harmful_pairs(book, plan):
    """The pairs of CALLs that stand in the same leg of some LIST, and of which the one can harm the other."""
    checked_calls(book, plan.calls)
    return [(call, other) for call, other in plan.unmarked() if can_harm(book, call, other)]


def least_marks(book, plan):
    """The ascending list of the least tuples of gaps in which marks make the plan calm."""
    # Marks only part what stood in the same leg without them.
    pairs = harmful_pairs(book, plan)
    gaps = plan.gaps()
    choices = [tuple([gaps[at] for at in choice]) for choice in all_choices(len(gaps))]
    return sorted(least_ones([choice for choice in choices if parts_all(plan.marked(choice), pairs)]))


def parts_all(plan, pairs):
    """Whether the plan has none of these pairs in the same leg of a LIST."""
    unmarked = plan.unmarked()
    return not any([pair in unmarked for pair in pairs])
