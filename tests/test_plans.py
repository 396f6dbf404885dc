"""[19]: plans of CALLs with choices, repetitions and marks."""

import itertools
import random

from stillgood.calls import run, shows
from stillgood.errors import BadCall, BadPlan, NoGap, NoLine
from stillgood.harm import can_harm, harms
from stillgood.plans import Plan, calm, least_marks, mark, nothing, plan_failure, plan_holds, step
from stillgood.ticked import hold
from tests.helpers import Case, both, calls_over, listed, random_book, shop, words_of

A, B, C = ("make", 5), ("make", 6), ("drop", 5)
SHOP = shop()


def call(*members):
    return "call", members


def lists_of(tree, most):
    """The set of the LISTs of the TREE with at most so many members, straight from the document."""
    sign = tree[0]
    if sign in ("call", "mark"):
        member = tree[1] if sign == "call" else ()
        return {(member,)} if most > 0 else set()
    if sign == "nothing":
        return {()}
    if sign == "or":
        return lists_of(tree[1], most) | lists_of(tree[2], most)
    if sign == "then":
        others = lists_of(tree[2], most)
        return {one + two for one in lists_of(tree[1], most) for two in others if len(one) + len(two) <= most}
    part, found, ahead = lists_of(tree[1], most), {()}, {()}
    while ahead:
        ahead = {one + two for one in ahead for two in part if len(one) + len(two) <= most} - found
        found |= ahead
    return found


def leaves_of(tree):
    """The TREEs "call" and "mark" in a TREE, from the left."""
    if tree[0] in ("call", "mark"):
        return [tree]
    return [leaf for part in tree[1:] for leaf in leaves_of(part)]


def random_tree(rng, calls, many):
    """A TREE with so many members."""
    if many == 0:
        return ("nothing",)
    if rng.random() < 0.3:
        return "again", random_tree(rng, calls, many) if rng.random() < 0.8 else ("nothing",)
    if many == 1:
        return rng.choice([("mark",), *[("call", call) for call in calls] * 2])
    left = rng.randrange(0, many + 1)
    return rng.choice(("then", "then", "or")), random_tree(rng, calls, left), random_tree(rng, calls, many - left)


def trees(count, calls=(A, B, C), members=3):
    """So many TREEs that depend on their seeds."""
    return [random_tree(random.Random(seed), calls, random.Random(seed).choice(range(members + 1))) for seed in range(count)]


def gaps_of(tree, path=()):
    """The set of the gaps of a TREE."""
    found = {path} if tree[0] in ("then", "again") else set()
    for at in range(1, len(tree)):
        if tree[0] != "call":
            found |= gaps_of(tree[at], (*path, at))
    return found


def put_marks(tree, gaps, path=()):
    """The TREE with marks in these gaps."""
    if tree[0] == "again":
        inner = put_marks(tree[1], gaps, (*path, 1))
        return "again", ("then", inner, ("mark",)) if path in gaps else inner
    if tree[0] in ("then", "or"):
        one, two = (put_marks(tree[at], gaps, (*path, at)) for at in (1, 2))
        return tree[0], ("then", one, ("mark",)) if path in gaps else one, two
    return tree


def legs_of(members):
    """The legs of a LIST."""
    found = [[]]
    for member in members:
        if member == ():
            found.append([])
        else:
            found[-1].append(member)
    return found


def pairs_in(members):
    """The pairs of CALLs of which the one stands ahead of the other in a row."""
    return {(one, other) for one, other in itertools.combinations(members, 2) if one != () and other != ()}


class Trees(Case):
    def test_trees(self):
        for tree in (call("make", 5), call("a"), call("abcdefgh", -1, 10 ** 29), ("nothing",), ("mark",),
                     ("then", ("mark",), ("nothing",)), ("or", call("a", 1), ("again", call("b", 0, 0))),
                     ("again", ("again", ("again", ("nothing",)))), *trees(60)):
            plan = Plan(tree)
            self.assertEqual(plan.tree, tree)
            self.assertEqual(Plan(listed(tree)).tree, tree)
            self.assertEqual(plan, Plan(listed(tree)))

    def test_bad_plans(self):
        good = call("make", 5)
        for wrong in ((), ("call",), ("call", ("make", 5), 1), ("call", "make"), ("call", ()), ("call", ("make", 1, 2, 3)),
                      ("call", ("Make", 5)), ("call", ("", 5)), ("call", ("ninechars", 5)), ("call", (5,)), ("call", ("make", "k")),
                      ("call", ("make", True)), ("call", ("make", None)), ("call", ("make", (5,))), ("call", (("make",), 5)),
                      ("call", None), ("call", {"make": 5}), ("Call", ("make", 5)), ("make", 5), ("nothing", ()), ("mark", ()),
                      ("mark", good), ("then",), ("then", good), ("then", good, good, good), ("or", good), ("or",),
                      ("or", good, good, good), ("again",), ("again", good, good), ("again", ()), ("again", A), ("then", good, None),
                      ("then", "mark", "mark"), ("or", good, ("then", good, ("again", ("stop",)))), ("mark",) * 2, (("mark",),),
                      "call", "mark", "", None, True, 0, {}, {"call": A}, [{}], ({}, good), ("call", ("make", {})), (None,),
                      (("call", A),), ("again", "mark")):
            self.fails(BadPlan, {}, Plan, wrong)
            self.fails(BadPlan, {}, Plan, listed(wrong))
            self.fails(BadPlan, {}, Plan, ("then", good, wrong))
            self.fails(BadPlan, {}, Plan, ("again", ["or", wrong, good]))

    def test_step_nothing_mark(self):
        self.assertEqual((step(A).tree, step(["make", 5]).tree, step(("a",)).tree), (("call", A), ("call", A), ("call", ("a",))))
        self.assertEqual((nothing().tree, mark().tree), (("nothing",), ("mark",)))
        for wrong in ((), "make", ("make", 1, 2, 3), ("make", True), ("Make",), None, {}, 5, ("make", "k"), [["make"], 5]):
            self.fails(BadPlan, {}, step, wrong)

    def test_operators(self):
        a, b = step(A), step(B)
        one, two = ("call", A), ("call", B)
        self.assertEqual(((a >> b).tree, (a | b).tree, a.again().tree), (("then", one, two), ("or", one, two), ("again", one)))
        self.assertEqual((a >> b >> a).tree, ("then", ("then", one, two), one))
        for plan in (a, a | b, nothing(), mark()):
            tree = plan.tree
            expected = [("nothing",), tree, ("then", tree, tree), ("then", ("then", tree, tree), tree),
                        ("then", ("then", ("then", tree, tree), tree), tree)]
            for many in range(5):
                self.assertEqual(((plan * many).tree, (many * plan).tree), (expected[many], expected[many]))
            self.assertEqual(plan.tree, tree)
        same = a
        same >>= b
        same |= b
        same *= 2
        self.assertEqual((a.tree, same), (one, 2 * ((a >> b) | b)))

    def test_equal(self):
        a, b = step(A), step(B)
        self.assertIs(a == step(["make", 5]), True)
        self.assertIs(a != step(["make", 5]), False)
        for other in (b, a >> b, a.again(), ("call", A), A, None, "make", [("call", A)], a >> nothing(), both()):
            self.assertIs(a == other, False)
            self.assertIs(a != other, True)
        self.assertIs((a | b) == (b | a), False)
        self.assertIs((a | b).alike(b | a), True)

    def test_members(self):
        for tree in trees(60):
            calls = [leaf[1] for leaf in leaves_of(tree) if leaf[0] == "call"]
            plan = Plan(tree)
            self.assertEqual((len(plan), plan.calls), (len(calls), tuple(sorted(set(calls)))))
            for one in (A, B, C, ("make",), ("make", 5, 5), ("look", 7)):
                self.assertIs(one in plan, one in calls)
                self.assertIs(list(one) in plan, one in calls)
        self.assertEqual((len(mark()), len(nothing()), len(step(A) >> step(A) >> mark())), (0, 0, 2))
        self.assertRaises(TypeError, iter, step(A))

    def test_what_was_handed_in_may_change(self):
        tree = ["then", ["call", ["make", 5]], ["mark"]]
        plan = Plan(tree)
        tree[1][1][1] = 6
        tree.append(["mark"])
        self.assertEqual((plan.tree, plan.calls), (("then", ("call", A), ("mark",)), (A,)))
        plan.lists(3).append(7)
        plan.before().append(7)
        plan.unmarked().append(7)
        plan.gaps().append(7)
        self.assertEqual((plan.lists(3), plan.before(), plan.unmarked(), plan.gaps()), ([(A, ())], [], [], [()]))


class Lists(Case):
    def test_lists(self):
        for tree in trees(150, (A, B), 4):
            for most in range(6):
                self.assertEqual(Plan(tree).lists(most), sorted(lists_of(tree, most)), tree)

    def test_lists_of_long_plans(self):
        steps = [step(("make", at)) for at in range(10)]
        either, row = steps[0], steps[0]
        for one in steps[1:]:
            either, row = either | one, row >> one
        self.assertEqual(either.lists(6), [(("make", at),) for at in range(10)])
        self.assertEqual(len(either.again().lists(2)), 111)
        self.assertEqual((row.lists(6), len(row.lists(10))), ([], 1))
        # A long way to the end leaves few LISTs, whatever stands ahead.
        late = (steps[0] | steps[1] | steps[2] | steps[3]).again() >> steps[4] >> steps[5] >> steps[6] >> steps[7] >> steps[8]
        self.assertEqual((late.lists(4), len(late.lists(5)), len(late.lists(6))), ([], 1, 5))
        many = steps[0]
        for _ in range(8):
            many = (many | nothing()).again()
        self.assertEqual(many.lists(6), [(("make", 0),) * size for size in range(7)])

    def test_heads_and_tails(self):
        for tree in trees(130):
            lists, plan = lists_of(tree, 8), Plan(tree)
            heads = {member for members in lists for member in members[:[*members, ()].index(())]}
            tails = {member for members in lists for member in members[::-1][:[*members[::-1], ()].index(())]}
            self.assertEqual((plan.heads, plan.tails), (tuple(sorted(heads)), tuple(sorted(tails))), tree)

    def test_before_unmarked_and_witness(self):
        seen = {True: 0, False: 0}
        for tree in trees(130):
            lists, plan = sorted(lists_of(tree, 8), key=lambda members: (len(members), members)), Plan(tree)
            before = sorted(set().union(*[pairs_in(members) for members in lists]))
            unmarked = sorted(set().union(*[pairs_in(leg) for members in lists for leg in legs_of(members)]))
            self.assertEqual((plan.before(), plan.unmarked()), (before, unmarked), tree)
            for one, other in itertools.product((A, B, C, ("look", 7)), repeat=2):
                ahead = [members for members in lists if (one, other) in pairs_in(members)]
                self.assertEqual(plan.witness(one, other), ahead[0] if ahead else None)
                self.assertEqual(plan.witness(one, other, unmarked=False), plan.witness(list(one), other=list(other)))
                ahead = [members for members in lists if any((one, other) in pairs_in(leg) for leg in legs_of(members))]
                self.assertEqual(plan.witness(one, other, unmarked=True), ahead[0] if ahead else None, (tree, one, other))
                seen[bool(ahead)] += 1
        self.assertGreater(min(seen.values()), 50)

    def test_witnesses_that_are_long(self):
        a, b, c = step(A), step(B), step(C)
        plan = (a >> b >> c).again()
        self.assertEqual(plan.witness(C, A), (A, B, C, A, B, C))
        self.assertEqual((plan.witness(A, C), plan.witness(C, C)), ((A, B, C), (A, B, C, A, B, C)))
        # A CALL that stands twice: only the longer way to it goes on without a mark.
        plan = (a >> mark() >> c) | (a >> b >> b >> c)
        self.assertEqual((plan.witness(A, C), plan.witness(A, C, unmarked=True)), ((A, (), C), (A, B, B, C)))
        self.assertEqual((plan.witness(C, A), plan.witness(A, A)), (None, None))
        # The least one is the least of all of the shortest ones.
        plan = (b | a | c) >> (c | b) >> (b | a).again() >> (b | a)
        self.assertEqual((plan.witness(B, B), plan.witness(C, A), plan.witness(B, A)), ((C, B, B), (C, C, A), (C, B, A)))
        plan = a >> mark() >> a >> b >> mark() >> b
        self.assertEqual((plan.witness(A, B), plan.witness(A, B, unmarked=True)), ((A, (), A, B, (), B),) * 2)
        plan = (a >> (b | mark())).again() >> c
        self.assertEqual((plan.witness(A, A), plan.witness(A, A, unmarked=True)), ((A, (), A, (), C), (A, B, A, (), C)))

    def test_within_and_alike(self):
        found, seen = trees(60, (A, B)), {True: 0, False: 0}
        lists = [lists_of(tree, 7) for tree in found]
        for at, one in enumerate(found):
            for other in range(at % 3, len(found), 3):
                truth = lists[at] <= lists[other]
                self.assertIs(Plan(one).within(Plan(found[other])), truth, (one, found[other]))
                self.assertIs(Plan(one).alike(Plan(found[other])), lists[at] == lists[other])
                seen[truth] += 1
        self.assertGreater(min(seen.values()), 50)

    def test_plans_that_are_written_otherwise(self):
        a, b, c = step(A), step(B), step(C)
        for one, other in (((a | b).again(), (a.again() >> b.again()).again()), (a.again().again(), a.again()),
                           ((a | nothing()).again(), a.again()), (a >> (b >> c), (a >> b) >> c), (a >> nothing(), a),
                           ((a | b) >> c, (a >> c) | (b >> c)), (nothing().again(), nothing()), (a | a, a),
                           (a >> (b >> a).again(), (a >> b).again() >> a), (nothing() | a >> a.again(), a.again()),
                           ((mark() | a).again(), (a.again() >> mark()).again() >> a.again())):
            self.assertIs(one.alike(other), True)
            self.assertIs(other.alike(other=one), True)
            self.assertIs(one == other, False)
        for one, other in ((a, a >> mark()), (a >> b, b >> a), (a.again(), a >> a.again()), (mark(), nothing()),
                           ((a >> b).again(), (a | b).again()), (4 * a, 5 * a), ((a | b) * 4, (a | b | c) * 4)):
            self.assertIs(one.alike(other), False)
        self.assertIs((4 * (a | b)).within(other=(a | b | c).again()), True)
        # Eight members, of which the fourth one from the end decides.
        late = (a | b).again() >> a >> (a | b) >> (a | b) >> step(A)
        self.assertIs(late.within((a | b).again()), True)
        self.assertIs((a | b).again().within(late), False)
        self.assertIs(late.within((a | b).again() >> a), True)


class Gaps(Case):
    def test_gaps(self):
        for tree in trees(100, (A, B), 4):
            self.assertEqual(Plan(tree).gaps(), sorted(gaps_of(tree)))
        self.assertEqual((step(A).gaps(), mark().gaps(), nothing().gaps(), (step(A) | step(B)).gaps()), ([], [], [], []))

    def test_marked(self):
        for tree in trees(100, (A, B), 4):
            plan, gaps = Plan(tree), sorted(gaps_of(tree))
            for size in range(3):
                for chosen in itertools.combinations(gaps, size):
                    found = plan.marked(chosen)
                    self.assertEqual(found.tree, put_marks(tree, chosen))
                    self.assertEqual(plan.marked((*chosen[::-1], *chosen)), found)
                    self.assertEqual(plan.marked(listed(chosen)), found)
            self.assertEqual((plan.tree, plan.marked(())), (tree, plan))
            with_all = plan.marked(gaps)
            self.assertEqual((with_all.unmarked(), with_all.calls), ([], plan.calls))

    def test_no_gap(self):
        plan = step(A) >> (step(B) | step(C)).again()
        for gaps, gap in ((((1,),), (1,)), (((), (3,), (1,)), (3,)), (((2, 1),), (2, 1)), (((2,), (0,)), (0,)), (((-1,),), (-1,)),
                          (((2, 1, 1, 1),), (2, 1, 1, 1))):
            self.fails(NoGap, {"gap": gap}, plan.marked, gaps)
            self.fails(NoGap, {"gap": gap}, plan.marked, listed(gaps))
        for one in (step(A), nothing(), mark()):
            self.fails(NoGap, {"gap": ()}, one.marked, ((), (1,)))

    def test_calm(self):
        seen = {True: 0, False: 0}
        for tree in trees(130):
            truth = not any(can_harm(both(), one, other) for members in lists_of(tree, 8) for leg in legs_of(members)
                            for one, other in itertools.combinations(leg, 2))
            self.assertIs(calm(both(), Plan(tree)), truth, tree)
            seen[truth] += 1
        self.assertGreater(min(seen.values()), 20)

    def test_least_marks(self):
        seen = []
        # Of two tuples the one with more gaps can be the first by comparison.
        uneven = (step(A) | ((mark() >> step(C)).again() >> step(A)).again().again()).tree
        self.assertEqual([len(gaps) for gaps in least_marks(both(), Plan(uneven))], [2, 1])
        for seed, tree in enumerate([*trees(120, (A, B, C, ("look", 5)), 5), uneven]):
            plan = Plan(tree)
            gaps = plan.gaps()
            if len(gaps) <= 6:
                book = SHOP if seed % 2 else random_book(seed, constants=(), tests=1) | SHOP
                calmed = [chosen for size in range(len(gaps) + 1) for chosen in itertools.combinations(gaps, size)
                          if calm(book, plan.marked(chosen))]
                least = [chosen for chosen in calmed if not any(
                    tuple(gap for gap in chosen if gap != left) in calmed for left in chosen)]
                self.assertEqual(least_marks(book, plan), sorted(least))
                # If a tuple of gaps makes it calm, so does each one that has all of these gaps.
                self.assertTrue(all(chosen in calmed for one in calmed for chosen in [tuple(sorted({*one, *gaps[:2]}))]))
                seen.append(len(least))
        self.assertGreater(len([many for many in seen if many > 1]), 5)
        self.assertEqual(least_marks(both(), step(A)), [()])
        self.assertEqual(least_marks(both(), step(A) >> step(A)), [((),)])

    def test_some_least_marks(self):
        a, look = step(A), step(("look", 5))
        # A mark ahead of the second one or behind it parts the first one from the last.
        plan = a >> step(("look", 6)) >> look
        self.assertEqual((plan.gaps(), least_marks(SHOP, plan)), ([(), (1,)], [((),), ((1,),)]))
        self.assertEqual(least_marks(SHOP, look >> a), [()])
        self.assertEqual(least_marks(SHOP, (look >> a).again()), [((),)])
        self.assertEqual(least_marks(SHOP, a.again() >> look.again()), [((1,),)])
        six = (a >> a).again() >> (a >> a).again() >> nothing()
        self.assertEqual((len(six.gaps()), len(least_marks(both(), six)) > 0), (6, True))


class Holding(Case):
    def check(self, book, tree, lines):
        """plan_holds and plan_failure tell what the LINES of short LISTs do."""
        plan, told = Plan(tree), {}
        for line in lines:
            told.setdefault(line[0], line)
        harm = {(one, other) for one in told for other in told if harms(book, told[one], told[other])}
        failing = None
        for members in sorted(lists_of(tree, 8), key=lambda members: (len(members), members)):
            if failing is None and pairs_in(members) & harm:
                failing = members
            if len(members) < 4:
                self.assertIs(hold(book, [told[member] for member in members if member != ()]), not pairs_in(members) & harm)
        self.assertIs(plan_holds(book, plan, lines), failing is None)
        found = plan_failure(book, plan, lines)
        if failing is None:
            self.assertIsNone(found)
            return True
        members, i, j, store = found
        pairs = [(i, j) for i, j in itertools.combinations(range(len(failing)), 2) if (failing[i], failing[j]) in harm]
        self.assertEqual((members, (i, j)), (failing, pairs[0]))
        one, other = told[members[i]], told[members[j]]
        self.assertTrue(shows(book, store, (one, other)))
        self.assertNotEqual(run(book, store, (one[0], other[0]))[0][1], other[1])
        return False

    def test_plans_of_a_shop(self):
        seen = {True: 0, False: 0}
        for seed, tree in enumerate(trees(150)):
            rng = random.Random(seed)
            lines = [(one, word) for one, words in ((A, ("made", "taken")), (B, ("made", "taken")), (C, ("dropped", "gone")))
                     for word in [rng.choice(words)]]
            # A CALL that stands there a second time with another word does not count.
            seen[self.check(both(), tree, (*lines, (A, "made"), (C, "gone"), (B, "taken")))] += 1
        self.assertGreater(min(seen.values()), 20)

    def test_small_books(self):
        seen = {True: 0, False: 0}
        for seed in range(160):
            book, rng = random_book(seed, constants=(0,), tests=2), random.Random(seed)
            calls = [rng.choice(calls_over(book, (0, 1, 2))) for _ in range(3)]
            lines = [(one, rng.choice(sorted(words_of(book[one[0]][2])))) for one in calls]
            seen[self.check(book, random_tree(rng, calls, 3), lines)] += 1
        self.assertGreater(min(seen.values()), 20)

    def test_the_first_of_the_lines_counts(self):
        plan = step(A).again()
        self.assertIs(plan_holds(both(), plan, ((A, "taken"), (A, "made"))), True)
        self.assertIs(plan_holds(both(), plan, ((A, "made"), (A, "taken"))), False)
        self.assertEqual(plan_failure(both(), plan, [[["make", 5], "made"]]), ((A, A), 0, 1, {}))

    def test_marks_are_counted(self):
        plan = mark() >> step(B) >> mark() >> step(A) >> mark() >> step(A)
        self.assertEqual(plan_failure(both(), plan, ((A, "made"), (B, "made")))[:3], (((), B, (), A, (), A), 3, 5))

    def test_plans_without_calls(self):
        for plan in (mark(), nothing(), (mark() | nothing()).again()):
            self.assertEqual((plan_holds(both(), plan, ()), plan_failure(both(), plan, ()), calm(both(), plan)), (True, None, True))
            self.assertEqual((plan.calls, plan.heads, plan.tails, plan.before(), plan.unmarked()), ((), (), (), [], []))


class Wrong(Case):
    def test_no_line(self):
        plan = step(B) >> (step(C) | step(A)).again()
        for lines, missing in (((), C), (((C, "gone"),), A), (((A, "made"), (C, "gone")), B), (((A, "made"), (B, "made")), C)):
            self.fails(NoLine, {"call": missing}, plan_holds, both(), plan, lines)
            self.fails(NoLine, {"call": missing}, plan_failure, both(), plan, listed(lines))

    def test_the_first_bad_call(self):
        good = ((A, "made"), (("put", 1), "ok"), (("make", 1, 2), "made"))
        # Those of plan.calls come first, in their order, then those of the LINES, then NoLine.
        plan = step(("put", 1)) >> step(A) >> step(("make", 1, 2)) >> step(("look", 1))
        for function in (plan_holds, plan_failure):
            for lines in ((), good, ((("take", 1), "no"),)):
                self.fails(BadCall, {"call": ("look", 1)}, function, both(), plan, lines)
                self.fails(BadCall, {"call": ("make", 1, 2)}, function, SHOP, plan, lines)
            for wrong in (("make",), (), ("put", 1), ("make", True)):
                lines = (((A), "made"), (list(wrong), "no"), (("take", 1), "no"))
                self.fails(BadCall, {"call": wrong}, function, both(), step(A) >> step(B), lines)
        for function in (calm, least_marks):
            self.fails(BadCall, {"call": ("look", 1)}, function, both(), plan)
            self.fails(BadCall, {"call": ("make", 1, 2)}, function, SHOP, plan)
            self.fails(BadCall, {"call": ("make",)}, function, both(), step(("make",)))
        # A Plan is of no book: what it is asked raises no BadCall.
        self.assertIs(("never", 1) in plan, False)
        self.assertIsNone(plan.witness(("never", 1), ("put", 1)))

    def test_names(self):
        plan, lines = Plan(tree=["again", ["call", ["make", 5]]]), [[["make", 5], "made"]]
        self.assertEqual((plan, step(call=["make", 5]).again()), (step(A).again(), plan))
        self.assertEqual((plan.lists(most=1), plan.marked(gaps=[[]]).tree),
                         ([(), (A,)], ("again", ("then", ("call", A), ("mark",)))))
        self.assertEqual(plan.witness(call=["make", 5], other=["make", 5], unmarked=True), (A, A))
        self.assertEqual((plan_holds(lines=lines, plan=plan, book=both()), plan_failure(lines=lines, plan=plan, book=both())),
                         (False, ((A, A), 0, 1, {})))
        self.assertEqual((calm(plan=plan, book=both()), least_marks(plan=plan, book=both())), (False, [((),)]))
        self.assertEqual(lines, [[["make", 5], "made"]])
        plan_failure(both(), plan, lines)[3][9] = (9,)
        least_marks(both(), plan).append(7)
        self.assertEqual((plan_failure(both(), plan, lines)[3], least_marks(both(), plan)), ({}, [((),)]))
