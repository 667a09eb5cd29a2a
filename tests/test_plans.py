"""Points 2 and 28: plans."""

import itertools
import unittest

from keptroutes.cheapest import least_cost
from keptroutes.errors import InvalidPair, NoSolution, NothingToUndo, PlanFinished
from keptroutes.merging import merge_task, merge_wish
from keptroutes.obstacles import first_obstacle
from keptroutes.plans import Plan
from keptroutes.sequences import changes, moments
from keptroutes.tables import Table
from keptroutes.tasks import Prices, cost, is_solution
from tests.made import prices_of
from tests.samples import chances, just_prefixes, near_rows, raises, some_pairs, some_table_rows


class ExampleTest(unittest.TestCase):
    def test_example_of_the_document(self):
        old, new = Table.of(2, ('', 'a'), ('1', 'b')), Table.of(2, ('', 'c'), ('10', 'a'))
        plan = Plan(old, new)
        found = [plan.advance(), plan.current.lookup('10'), plan.finish(), plan.is_finished]
        self.assertEqual(found, [('10', 'a'), 'a', 2, True])
        self.assertEqual([plan.back(), plan.abandon(), plan.current == old], [('1', None), 2, True])


class CheckedTest(unittest.TestCase):
    def holds(self, plan, steps, tables, done):
        """Check that a plan with these steps and tables has so many steps done."""
        self.assertEqual([plan.steps, plan.done, plan.is_finished], [steps, done, done == len(steps)])
        self.assertIs(type(plan.steps), list)
        self.assertIs(type(plan.done), int)
        self.assertIs(type(plan.is_finished), bool)
        self.assertIs(type(plan.current), Table)
        self.assertEqual(plan.current, tables[done])


class WalkTest(CheckedTest):
    """Plans walked in drawn orders."""

    def walk(self, chance, old, new, many):
        steps, tables = changes(old, new), [old] + list(moments(old, new))
        plans = [[Plan(old, new), 0]]
        for _ in range(many):
            pair = chance.choice(plans)
            pair[1] = self.step(chance, pair[0], steps, pair[1])
            if len(plans) < 3 and chance.random() < 0.15:
                plans.append([pair[0].copy(), pair[1]])
            for plan, done in plans:
                self.holds(plan, steps, tables, done)

    def step(self, chance, plan, steps, done):
        """Do something with the plan and return how many steps are done then."""
        word = chance.choice(('advance', 'advance', 'advance', 'back', 'back', 'finish', 'abandon'))
        if word == 'finish':
            self.assertEqual(plan.finish(), len(steps) - done)
            return len(steps)
        if word == 'abandon':
            self.assertEqual(plan.abandon(), done)
            return 0
        if word == 'advance':
            if done == len(steps):
                raises(self, PlanFinished, plan.advance)
                return done
            self.assertEqual(plan.advance(), steps[done])
            return done + 1
        if done == 0:
            raises(self, NothingToUndo, plan.back)
            return 0
        self.assertEqual(plan.back(), steps[done - 1])
        return done - 1

    def test_all_widths(self):
        for width in range(1, 33):
            for chance in chances(2):
                for old, new in some_pairs(chance, width, 6, 'abc'):
                    self.walk(chance, Table(width, old), Table(width, new), 15)

    def test_forty_rows_and_more(self):
        for chance in chances(2):
            for width in (6, 32):
                old, new = [{prefix: chance.choice('abcdef') for prefix in just_prefixes(chance, width, 45)}
                            for _ in range(2)]
                self.walk(chance, Table(width, old), Table(width, new), 60)

    def test_forth_and_back_again(self):
        old, new = Table.of(3, ('', 'a'), ('1', 'b'), ('01', 'c')), Table.of(3, ('', 'c'), ('10', 'a'), ('1', 'd'))
        steps, tables = changes(old, new), [old] + list(moments(old, new))
        self.assertEqual(len(steps), 4)
        plan = Plan(old, new)
        for done in range(4):
            self.holds(plan, steps, tables, done)
            self.assertEqual(plan.advance(), steps[done])
        for _ in range(2):
            self.holds(plan, steps, tables, 4)
            raises(self, PlanFinished, plan.advance)
            self.assertEqual(plan.finish(), 0)
        for done in range(4, 0, -1):
            self.holds(plan, steps, tables, done)
            self.assertEqual(plan.back(), steps[done - 1])
        for _ in range(2):
            self.holds(plan, steps, tables, 0)
            raises(self, NothingToUndo, plan.back)
            self.assertEqual(plan.abandon(), 0)


class PlanTest(CheckedTest):
    def setUp(self):
        self.old = Table.of(2, ('', 'a'), ('1', 'b'))
        self.new = Table.of(2, ('', 'c'), ('10', 'a'))
        self.steps = [('10', 'a'), ('', 'c'), ('1', None)]
        self.tables = [self.old] + list(moments(self.old, self.new))

    def test_equal_tables(self):
        for rows in ({}, {'': 'a', '01': 'b'}):
            for width in (2, 32):
                table = Table(width, rows)
                plan = Plan(table, Table(width, dict(rows)))
                self.holds(plan, [], [table], 0)
                raises(self, PlanFinished, plan.advance)
                raises(self, NothingToUndo, plan.back)
                self.assertEqual([plan.finish(), plan.abandon()], [0, 0])
                self.holds(plan, [], [table], 0)

    def test_other_widths(self):
        for one, two in itertools.product((1, 2, 3, 32), repeat=2):
            if one != two:
                for rows in ({}, {'1': 'a'}):
                    raises(self, InvalidPair, lambda: Plan(Table(one, rows), Table(two, {})))
                    raises(self, InvalidPair, lambda: Plan(Table(one, {}), Table(two, rows)))

    def test_lists_are_new_and_tables_stay(self):
        plan = Plan(self.old, self.new)
        plan.steps.clear()
        plan.steps.append(None)
        self.assertIsNot(plan.steps, plan.steps)
        plan.advance()
        found = plan.current
        plan.finish()
        found.rows.clear()
        found.with_row('', 'z')
        plan.current.rows['0'] = 'y'
        self.assertEqual(found, self.tables[1])
        self.holds(plan, self.steps, self.tables, 3)
        self.assertEqual([self.old.rows, self.new.rows], [{'': 'a', '1': 'b'}, {'': 'c', '10': 'a'}])

    def test_copies(self):
        plan = Plan(self.old, self.new)
        plan.advance()
        one = plan.copy()
        plan.advance()
        two = plan.copy()
        self.assertIs(type(one), Plan)
        self.assertEqual([plan.finish(), one.back(), two.back()], [1, self.steps[0], self.steps[1]])
        for some, done in ((plan, 3), (one, 0), (two, 1)):
            self.holds(some, self.steps, self.tables, done)
        three = one.copy()
        one.finish()
        plan.abandon()
        for some, done in ((plan, 0), (one, 3), (two, 1), (three, 0)):
            self.holds(some, self.steps, self.tables, done)

    def test_arguments_by_name(self):
        plan = Plan(new=self.new, old=self.old)
        self.holds(plan, self.steps, self.tables, 0)
        rebased = plan.rebased(prices=Prices(), table=self.old)
        self.assertEqual(rebased.current, self.old)


class RebasedTest(CheckedTest):
    def check(self, plan, table, prices):
        """Check the plan that is rebased, or what is raised; return whether it is a plan."""
        old, new = self.pair
        before = [plan.done, plan.current, plan.steps]
        task = merge_task(old, table, new, prices)
        least = least_cost(task)
        if least is None:
            with self.assertRaises(NoSolution) as caught:
                plan.rebased(table, prices)
            self.assertIs(caught.exception.__class__, NoSolution)
            self.assertEqual(caught.exception.leaf, first_obstacle(task))
        else:
            made = plan.rebased(table, prices)
            self.assertIs(type(made), Plan)
            self.assertEqual([made.done, made.current], [0, table])
            made.finish()
            goal = made.current
            self.assertEqual(made.steps, changes(table, goal))
            self.assertEqual(cost(task, goal), least)
            self.assertIs(is_solution(task, goal), True)
            self.assertIs(merge_wish(old, table, new).is_fulfilled(goal), True)
            made.abandon()
            self.holds(made, changes(table, goal), [table], 0)
        self.assertEqual([plan.done, plan.current, plan.steps], before)
        return least is not None

    def test_drawn_plans(self):
        met = [0, 0]
        for chance in chances(25):
            for width in (1, 2, 3, 17, 32):
                for old, new in some_pairs(chance, width, 4, 'abc')[:4]:
                    self.pair = (Table(width, old), Table(width, new))
                    plan = Plan(*self.pair)
                    for _ in range(chance.randint(0, len(plan.steps))):
                        plan.advance()
                    for rows in (near_rows(chance, width, old, 'abc'), some_table_rows(chance, width, 3, 'abc')):
                        single = {prefix: chance.choice((None, 1, 9)) for prefix in list(rows)[:2]}
                        prices = prices_of((3, 2, 1), single)
                        met[self.check(plan, Table(width, rows), prices)] += 1
        self.assertGreater(min(met), 20, met)

    def test_the_state_of_the_plan_does_not_count(self):
        self.pair = (Table.of(2, ('', 'a'), ('1', 'b')), Table.of(2, ('', 'c'), ('10', 'a')))
        plan = Plan(*self.pair)
        while True:
            self.assertTrue(self.check(plan, Table.of(2, ('', 'a'), ('1', 'b'), ('01', 'd')), Prices(adding=3)))
            self.assertTrue(self.check(plan, plan.current, Prices()))
            if plan.is_finished:
                break
            plan.advance()

    def test_what_is_merged(self):
        old, new = Table.of(2, ('', 'a')), Table.of(2, ('', 'b'))
        made = Plan(old, new).rebased(Table.of(2, ('', 'a'), ('11', 'c')), Prices(adding=5))
        self.assertEqual(made.steps, [('', 'b')])
        # What was changed on the other side only stays as it is.
        made = Plan(old, old).rebased(Table.of(2, ('', 'q'), ('01', 'r')), Prices())
        self.assertEqual([made.steps, made.is_finished], [[], True])
        made = Plan(old, new).rebased(new, Prices())
        self.assertEqual([made.steps, made.current], [[], new])
        made = Plan(old, new).rebased(old, Prices())
        self.assertEqual(made.steps, [('', 'b')])

    def test_a_plan_that_is_rebased_twice(self):
        old, new = Table.of(3, ('', 'a')), Table.of(3, ('', 'a'), ('11', 'b'))
        made = Plan(old, new).rebased(Table.of(3, ('', 'a'), ('0', 'c')), Prices())
        self.assertEqual([made.steps, made.current.rows], [[('11', 'b')], {'': 'a', '0': 'c'}])
        again = made.rebased(Table.of(3, ('', 'a'), ('0', 'd')), Prices())
        self.assertEqual([again.steps, again.current.rows], [[('11', 'b')], {'': 'a', '0': 'd'}])
        self.assertEqual([again.finish(), again.current.rows], [1, {'': 'a', '0': 'd', '11': 'b'}])
        # Where both sides lead elsewhere, what the table has is allowed.
        self.assertEqual(Plan(old, new).rebased(Table.of(3, ('', 'c')), Prices()).steps, [])

    def test_invalid_pair_comes_before_no_solution(self):
        plan = Plan(Table.of(2, ('', 'a')), Table(2, {}))
        plan.advance()
        locked = Prices().with_row('', None)
        for width in (1, 3, 32):
            for rows in ({}, {'': 'a'}):
                raises(self, InvalidPair, lambda: plan.rebased(Table(width, rows), locked))
        with self.assertRaises(NoSolution) as caught:
            plan.rebased(Table.of(2, ('', 'a')), locked)
        self.assertEqual(caught.exception.leaf, '0')
        self.assertEqual([plan.done, plan.current, plan.steps], [1, Table(2, {}), [('', None)]])

    def test_a_hundred_rows(self):
        for chance in chances(1):
            old, new, other = [Table(32, {prefix: chance.choice('abc') for prefix in just_prefixes(chance, 32, 100)})
                               for _ in range(3)]
            self.pair = (old, new)
            self.assertTrue(self.check(Plan(old, new), other, Prices(adding=2, changing=3)))
