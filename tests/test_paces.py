import random
import unittest

from streamwrights.makers import spelled
from streamwrights.paces import (lead_of, leads, pace, pace_holds, pipe_holds, pipe_paper, pipe_room, waiting)
from streamwrights.translators import Translator
from tests import pacereckoning, reckoning
from tests.samples import ASIDE, EMPTY, FORKED, LAST, LATE, MANY

DOUBLE = spelled((("a", "xx"), ("b", "")))
TURN = Translator(2, ((0, "x"),), ((0, "a", "xx", 1), (1, "b", "", 0)), ((0, ""),))
SLOW = Translator(1, ((0, ""),), ((0, "a", "", 0), (0, "b", "xx", 0)), ((0, ""),))
# Loops with leads of states of no use alone, some of which are met.
USELESS = Translator(4, ((0, "x"), (2, "xxx")), ((0, "a", "x", 0), (0, "b", "y", 1), (1, "b", "yy", 1), (2, "a", "", 2),
                                                 (3, "a", "xx", 3)), ((0, "zz"), (3, "")))
NEVER = Translator(2, ((0, "xyz"),), ((0, "a", "xx", 0),), ((1, ""),))
# A loop of two states, whose moves rise and fall, and a second loop that rises slowly behind it.
STAIRS = Translator(4, ((0, ""),), ((0, "a", "", 1), (1, "a", "", 2), (2, "a", "xxxx", 0), (2, "b", "x", 3)), ((3, ""),))
ONES = (reckoning.random_translators(101, 160, most_states=4, most_moves=8)
        + reckoning.random_translators(102, 60, most_states=4, most_moves=5, most_word=1)
        + reckoning.random_sures(103, 40)
        + [DOUBLE, TURN, SLOW, USELESS, NEVER, STAIRS, EMPTY, ASIDE, LATE, LAST, MANY, FORKED])


class LeadsTest(unittest.TestCase):

    def test_examples(self):
        self.assertEqual((leads(DOUBLE), leads(TURN)), ((None, None), (1, 2)))
        self.assertEqual(lead_of(SLOW, (0, (0, 0, 1))), -1)
        self.assertEqual((leads(EMPTY), leads(NEVER)), ((0, 0), (0, 0)))
        self.assertEqual((leads(SLOW), leads(USELESS), leads(translator=STAIRS)), ((None, None), (1, 1), (-2, None)))
        self.assertEqual(lead_of(translator=TURN, run=(0, (0,))), 2)
        self.assertEqual(leads(ASIDE), (None, 0))
        self.assertEqual(leads(spelled((("a", "xx"),))), (0, None))

    def test_small_translators(self):
        seen = {}
        for one in ONES:
            rows = [row[1] for row in pacereckoning.leads_up_to(one, 12)]
            signs = pacereckoning.loop_signs(one)
            least, greatest = leads(one)
            wanted = (None if -1 in signs else min(rows, default=0), None if 1 in signs else max(rows, default=0))
            self.assertEqual((least, greatest), wanted)
            key = (least is None, greatest is None)
            seen[key] = seen.get(key, 0) + 1
            for run, _ in pacereckoning.partial_runs(one, 2)[:12]:
                self.assertEqual(lead_of(one, run), pacereckoning.lead(one, run))
        self.assertTrue(len(seen) == 4 and min(seen.values()) > 10, seen)

    def test_leads_above_and_below(self):
        one = Translator(3, ((0, "xxx"), (1, "")), ((0, "a", "", 1), (1, "a", "x", 1), (1, "b", "yy", 2)), ((2, "z"),))
        self.assertEqual(leads(one), (0, 3))
        two = Translator(3, ((0, ""),), ((0, "a", "", 1), (1, "a", "", 2), (2, "a", "x", 2)), ((2, ""),))
        self.assertEqual(leads(two), (-2, 0))


class PaceTest(unittest.TestCase):

    def test_examples(self):
        self.assertEqual(pace(TURN), ("between", ((0, 1, 1), (1, 2, 2))))
        self.assertEqual(pace(DOUBLE)[0] in ("rises", "falls"), True)
        for thing in (("rises", (0, ()), (0,)), ("falls", (0, ()), (1,)), ("falls", (0, (0, 1, 0)), (0, 1, 1))):
            self.assertIs(pace_holds(DOUBLE, thing), True)
        for thing in (("rises", (0, ()), (1,)), ("rises", (0, ()), (0, 1)), ("rises", (0, ()), ()), ("rises", (1, ()), (0,)),
                      ("rises", (0, (), 0), (0,)), ("rises", (0, ()), (0, 2)), ("rises", (0, ()), (False,)),
                      ("between", ((0, -5, 5),))):
            self.assertIs(pace_holds(DOUBLE, thing), False)
        self.assertEqual((pace(EMPTY), pace(NEVER)), (("between", ()),) * 2)
        self.assertIs(pace_holds(translator=EMPTY, thing=("between", ())), True)
        self.assertEqual(pace(translator=USELESS), ("between", ((0, 1, 1),)))

    def test_small_translators(self):
        seen = {}
        for one in ONES:
            found = pace(one)
            self.assertTrue(pacereckoning.is_pace(one, found), found)
            self.assertIs(pace_holds(one, found), True)
            seen[found[0]] = seen.get(found[0], 0) + 1
            if found[0] == "between":
                self.assertEqual(pacereckoning.loop_signs(one) <= {0}, True)
                bounds = {row[0]: row[1:] for row in found[1]}
                for state, height, _ in pacereckoning.leads_up_to(one, 8):
                    self.assertTrue(bounds[state][0] <= height <= bounds[state][1])
        self.assertTrue(len(seen) == 3 and min(seen.values()) > 20, seen)

    def test_wider_rows_hold(self):
        for one in ONES:
            found = pace(one)
            if found[0] == "between":
                for low, high in ((1, 0), (0, 1), (7, 10 ** 30)):
                    rows = tuple((row[0], row[1] - low, row[2] + high) for row in found[1])
                    self.assertIs(pace_holds(one, ("between", rows)), True)
                for low, high in ((-1, 0), (0, -1)):
                    rows = tuple((row[0], row[1] - low, row[2] + high) for row in found[1])
                    self.assertIs(pace_holds(one, ("between", rows)), rows == ())

    def test_changed_papers(self):
        rng = random.Random(2)
        things = [("rises", (0, ()), (0,)), ("falls", (0, (0,)), (2, 1)), ("between", ((0, 0, 1), (1, 0, 2)))]
        for one in rng.sample(ONES, 30) + [DOUBLE, TURN, STAIRS, USELESS]:
            for thing in [pace(one)] + things:
                for odd in reckoning.mutations(thing):
                    self.assertIs(pace_holds(one, odd), pacereckoning.is_pace(one, odd), odd)

    def test_loops_go_round_as_often_as_one_likes(self):
        self.assertEqual(pace_holds(STAIRS, ("rises", (0, (0, 1, 2)), (0, 1, 2) * 900)), True)
        self.assertEqual(pace_holds(STAIRS, ("rises", (0, (0,)), (1, 2, 0))), True)
        self.assertEqual(pace_holds(STAIRS, ("falls", (0, (0,)), (1, 2, 0))), False)
        self.assertEqual(pace_holds(STAIRS, ("rises", (0, (0, 1, 3)), (0, 1, 2))), False)

    def test_states_of_no_use(self):
        self.assertIs(pace_holds(USELESS, ("rises", (0, (1,)), (2,))), False)
        self.assertIs(pace_holds(USELESS, ("falls", (1, ()), (3,))), False)
        self.assertIs(pace_holds(USELESS, ("between", ((0, 1, 1), (1, 0, 0)))), False)
        self.assertIs(pace_holds(USELESS, ("between", ((0, 1, 1),))), True)
        self.assertIs(pace_holds(NEVER, ("rises", (0, ()), (0,))), False)

    def test_any_values(self):
        for thing in reckoning.any_values():
            for odd in (thing, ("between", thing), ("rises", thing, (0,)), ("rises", (0, ()), thing), (thing, (0, ()), (0,)),
                        ("falls", (0, thing), (1,)), ("between", (thing,)), ("between", ((0, thing, 5),)), ["between", ()]):
                for one in (DOUBLE, EMPTY, TURN):
                    self.assertIs(pace_holds(one, odd), pacereckoning.is_pace(one, odd), odd)


class PipeTest(unittest.TestCase):

    def test_examples(self):
        self.assertEqual((pipe_room(DOUBLE), pipe_room(TURN), pipe_room(EMPTY), pipe_room(NEVER)), (None, 2, 0, 0))
        self.assertIs(pipe_holds(DOUBLE, 2, pipe_paper(DOUBLE, 2)), True)
        self.assertIs(pipe_holds(DOUBLE, 2, ("full", (0, (0, 0, 0)))), True)
        self.assertIs(pipe_holds(DOUBLE, 3, ("full", (0, (0, 0, 0)))), False)
        self.assertEqual(pipe_paper(TURN, 1), ("full", (0, (0,))))
        self.assertIs(pipe_holds(TURN, 2, ("pipe", 2, ((0, 1), (1, 2)))), True)
        self.assertEqual(waiting(SLOW, (0, (0, 0, 1))), 1)
        # A word at an end lets none out.
        one = Translator(1, ((0, "xx"),), ((0, "a", "x", 0),), ((0, "yyy"),))
        self.assertEqual((waiting(one, (0, ())), waiting(one, (0, (), 0)), waiting(one, (0, (0, 0), 0))), (2, 5, 5))
        self.assertEqual((pipe_room(translator=one), pipe_paper(translator=one, many=5)[0]), (5, "pipe"))
        self.assertEqual((waiting(translator=one, run=(0, (0,))), pipe_paper(one, 4)[0]), (2, "full"))
        self.assertIs(pipe_holds(translator=one, many=4, thing=("full", (0, (), 0))), True)
        self.assertIs(pipe_holds(one, 2, ("full", (0, ()))), False)

    def test_small_translators(self):
        seen = {None: 0, "some": 0}
        for one in ONES:
            rows = pacereckoning.leads_up_to(one, 12)
            heights = [many for _, _, many in rows] + [many + len(word) for state, _, many in rows
                                                       for last, word in one.ends if last == state]
            room = pipe_room(one)
            seen[None if room is None else "some"] += 1
            self.assertEqual(room, None if 1 in pacereckoning.loop_signs(one) else max(heights, default=0))
            for many in (0, 1, 2, 3, 5, 200):
                paper = pipe_paper(one, many)
                self.assertEqual(paper[0] == "pipe", room is not None and room <= many)
                self.assertTrue(pacereckoning.is_pipe(one, many, paper))
                self.assertIs(pipe_holds(one, many, paper), True)
            for run, last in pacereckoning.partial_runs(one, 3)[:20]:
                self.assertEqual(waiting(one, run), pacereckoning.waiting(one, run))
                for end, (state, _) in enumerate(one.ends):
                    if state == last:
                        self.assertEqual(waiting(one, run + (end,)), pacereckoning.waiting(one, run + (end,)))
        self.assertGreater(min(seen.values()), 60)

    def test_numbers_at_the_edge(self):
        for one in ONES:
            room = pipe_room(one)
            if room is not None:
                paper = pipe_paper(one, room)
                self.assertIs(pipe_holds(one, room + 3, paper), True)
                if room > 0:
                    self.assertIs(pipe_holds(one, room - 1, paper), False)
                    full = pipe_paper(one, room - 1)
                    self.assertEqual((full[0], pipe_holds(one, room, full)), ("full", False))
                rows = tuple((state, room) for state in one.useful)
                self.assertIs(pipe_holds(one, room, ("pipe", room, rows)), pacereckoning.is_pipe(one, room,
                                                                                                ("pipe", room, rows)))
            else:
                self.assertGreater(waiting(one, pipe_paper(one, 200)[1]), 200)

    def test_changed_papers(self):
        rng = random.Random(3)
        for one in rng.sample(ONES, 30) + [DOUBLE, TURN, STAIRS, USELESS]:
            for many in (1, 4):
                for odd in reckoning.mutations(pipe_paper(one, many)):
                    self.assertIs(pipe_holds(one, many, odd), pacereckoning.is_pipe(one, many, odd), odd)

    def test_states_of_no_use(self):
        self.assertEqual(pipe_room(USELESS), 3)
        self.assertIs(pipe_holds(USELESS, 2, ("full", (1, ()))), False)
        self.assertIs(pipe_holds(USELESS, 2, ("full", (0, (), 0))), True)
        self.assertIs(pipe_holds(USELESS, 2, ("full", (0, (1, 2, 2, 2)))), False)
        self.assertIs(pipe_holds(USELESS, 3, ("pipe", 3, ((0, 1), (2, 3)))), False)
        self.assertIs(pipe_holds(USELESS, 3, ("pipe", 3, ((0, 1),))), True)

    def test_slow_stairs(self):
        # Each round of three moves adds one letter.
        self.assertIsNone(pipe_room(STAIRS))
        for many in (3, 50, 200):
            paper = pipe_paper(STAIRS, many)
            self.assertTrue(paper[0] == "full" and pacereckoning.waiting(STAIRS, paper[1]) > many)

    def test_any_values(self):
        for thing in reckoning.any_values():
            for odd in (thing, ("pipe", 2, thing), ("pipe", thing, ((0, 1), (1, 2))), ("full", thing), (thing, (0, (0,))),
                        ("full", (0, thing)), ("full", (thing, ())), ("full", (0, (0,), thing)), ("pipe", 2, (thing,)),
                        ("pipe", 2, ((0, 1), (1, thing))), ["full", (0, (0,))]):
                for one in (TURN, DOUBLE, EMPTY):
                    self.assertIs(pipe_holds(one, 1, odd), pacereckoning.is_pipe(one, 1, odd), odd)
                    self.assertIs(pipe_holds(one, 5, odd), pacereckoning.is_pipe(one, 5, odd), odd)


if __name__ == "__main__":
    unittest.main()
