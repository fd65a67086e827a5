"""Workshops, points [57] and [58]."""

import random
import unittest
from itertools import product

from changing import Story, calling_program, plain_program, random_call
from helpers import SECONDS, lists_within, raised, same_list_twice, seconds, spoil
from openloops.errors import (InvalidDeed, InvalidFlag, InvalidList, InvalidPlace, InvalidWord, NothingToRedo,
                              NothingToUndo)
from openloops.programs import Program
from openloops.workshop import Workshop
from walking import N

LOW = ("low", 1, [("times", N, [("write", "ab")])])
PAIR = Program([LOW, ("main", 1, [("call", "low", [((0, 1), 0, 2)]), ("write", "c")])])
MORE = ("splice", "main", (), 2, 0, [("write", "x")])
AHEAD = ("splice", "main", (), 0, 0, [("write", "y")])


class Stop(Exception):
    """Ends a block."""


def told(shop):
    """Return all that a workshop tells of itself."""
    return [shop.program, shop.many_deeds, shop.log(), [program for program in shop.programs()], shop.marks()]


def state(shop):
    """Return all that a workshop tells of itself, what is undone too."""
    other, steps = shop.copy(), []
    while raised(other.redo) is None:
        steps.append(told(other))
    return told(shop), steps


class Random(unittest.TestCase):
    def test_workshops_tell_what_was_done(self):
        for seed in range(40):
            chance = random.Random(seed)
            program = calling_program(seed)
            shop, story = Workshop(program), Story(program)
            for _ in range(25):
                random_call(chance, shop, story)
                self.assertEqual(shop.program, plain_program(story.parts[story.now]))
                self.assertEqual([shop.log(), shop.many_deeds], [story.deeds[:story.now], story.now])
                self.assertEqual(shop.marks(), story.marks())
                self.assertEqual([each for each in shop.programs()],
                                 [plain_program(parts) for parts in story.parts[:story.now + 1]])

    def test_trials_within_trials(self):
        for seed in range(40):
            chance = random.Random(seed)
            program = calling_program(seed)
            shop, story = Workshop(program), Story(program)
            self.go_on(chance, shop, story, 3, [])

    def go_on(self, chance, shop, story, depth, used):
        """Do things with a workshop, in trials too, some of which are kept and some of which end with an error.

        `used` has the objects that have been entered; some are entered again, also within their own blocks.
        """
        for _ in range(6):
            random_call(chance, shop, story)
            if depth > 0 and chance.random() < 0.4:
                before, keeps, fails = state(shop), chance.random() < 0.5, chance.random() < 0.3
                kept = story.copy()
                made = chance.choice(used) if used and chance.random() < 0.5 else shop.trial()
                used.append(made)
                try:
                    with made as trial:
                        self.go_on(chance, shop, story, depth - 1, used)
                        if keeps:
                            self.assertIsNone(trial.keep())
                            random_call(chance, shop, story)
                        if fails:
                            raise Stop()
                except Stop:
                    self.assertTrue(fails)
                if not keeps:
                    self.assertEqual(state(shop), before)
                    story.parts, story.deeds, story.now, story.marked = kept.parts, kept.deeds, kept.now, kept.marked
                self.assertEqual(shop.marks(), story.marks())
                self.assertEqual([shop.log(), shop.program], [story.deeds[:story.now], plain_program(story.parts[story.now])])


class Deeds(unittest.TestCase):
    def test_no_deeds_at_all(self):
        shop = Workshop(Program([]))
        self.assertEqual(told(shop), [Program([]), 0, [], [Program([])], []])
        self.assertIsInstance(raised(shop.undo), NothingToUndo)
        self.assertIsInstance(raised(shop.redo), NothingToRedo)

    def test_undone_and_done_again(self):
        shop = Workshop(PAIR)
        self.assertEqual([shop.do(MORE), shop.do(AHEAD), shop.undo(), shop.undo(), shop.redo()], [None] * 5)
        self.assertEqual([shop.log(), shop.many_deeds], [[MORE], 1])
        self.assertIsNone(shop.redo())
        self.assertEqual(shop.log(), [MORE, AHEAD])
        self.assertIsInstance(raised(shop.redo), NothingToRedo)
        shop.undo()
        shop.do(MORE)
        self.assertIsInstance(raised(shop.redo), NothingToRedo)
        self.assertEqual(shop.log(), [MORE, MORE])

    def test_calls_that_raise_an_error_change_nothing(self):
        shop = Workshop(PAIR)
        shop.do(MORE)
        shop.do(AHEAD)
        shop.mark("here", ("main", (0,)))
        shop.undo()
        before = state(shop)
        for call in [lambda: shop.do(("drop", "low")), lambda: shop.do(None), lambda: shop.mark("", ("main", (0,))),
                     lambda: shop.mark("more", ("main", (9,))), lambda: shop.together([AHEAD, AHEAD, ("drop", "low")]),
                     lambda: shop.together([AHEAD, None], keep=False), lambda: shop.together((AHEAD,)),
                     lambda: shop.together([AHEAD], keep=1)]:
            self.assertIsNotNone(raised(call))
            self.assertEqual(state(shop), before)
        self.assertIsNone(shop.redo())
        with self.assertRaises(NothingToRedo):
            shop.redo()
        self.assertEqual(shop.many_deeds, 2)

    def test_errors_hold_what_is_wrong(self):
        shop, deed = Workshop(PAIR), ("drop", "low")
        self.assertIs(raised(lambda: shop.do(deed)).value, deed)
        error = raised(lambda: shop.together([("drop", "main"), MORE, deed]))
        self.assertIsInstance(error, InvalidDeed)
        self.assertIs(error.value, MORE)
        self.assertIsNone(raised(lambda: shop.together([("drop", "main"), deed])))

    def test_60_deeds_that_stand(self):
        shop = Workshop(PAIR)
        for at in range(60):
            shop.do(("splice", "main", (), at, 0, [("write", "x")]))
            shop.mark("a" + "bcdefghijk"[at % 10], ("main", (at,)))
        self.assertEqual([shop.many_deeds, len(shop.log()), len([program for program in shop.programs()])], [60, 60, 61])
        self.assertEqual(shop.marks()[0], ("ab", ("main", (50,))))
        for _ in range(60):
            shop.undo()
        self.assertEqual([shop.program, {place for _, place in shop.marks()}], [PAIR, {None}])
        for _ in range(60):
            shop.redo()
        self.assertEqual(shop.marks()[-1], ("ak", ("main", (59,))))

    def test_heavy_programs(self):
        parts = [("abcdefghijkl"[at], 1, [("times", N, [("write", "ab")])] * 2500) for at in range(12)]
        shop = Workshop(Program(parts))
        self.assertLess(seconds(lambda: shop.do(("rename", "a", "new"))), SECONDS)
        self.assertLess(seconds(lambda: shop.do(("splice", "l", (), 0, 2500, []))), SECONDS)

    def test_equal_workshops(self):
        one, other = Workshop(PAIR), Workshop(PAIR)
        self.assertEqual(one, other)
        one.do(MORE)
        self.assertFalse(one == other)
        other.do(("splice", "main", (), 2, 0, [("write", "x")]))
        self.assertTrue(one == other)
        one.mark("here", ("main", (0,)))
        one.do(AHEAD)
        one.undo()
        self.assertTrue(one == other)
        self.assertFalse(Workshop(one.program) == one)
        self.assertFalse(one == one.program)
        self.assertFalse(Workshop(Program([])) == Workshop(PAIR))

    def test_copies(self):
        shop = Workshop(PAIR)
        shop.do(MORE)
        shop.mark("here", ("main", (2,)))
        shop.do(AHEAD)
        shop.undo()
        other = shop.copy()
        self.assertEqual(state(other), state(shop))
        before = state(shop)
        other.redo()
        other.mark("here", ("main", (0,)))
        other.do(("drop", "main"))
        self.assertEqual(state(shop), before)
        shop.undo()
        self.assertEqual([other.many_deeds, shop.many_deeds], [3, 0])

    def test_the_loop_over_the_programs_goes_over_those_of_its_beginning(self):
        shop = Workshop(PAIR)
        shop.do(MORE)
        rows = shop.programs()
        shop.do(AHEAD)
        found = []
        for program in rows:
            found.append(program)
            if shop.many_deeds > 0:
                shop.undo()
        self.assertEqual([len(found), found[0], shop.many_deeds], [3, PAIR, 0])
        self.assertEqual(len(found[2].parts()[1][2]), 4)

    def test_lists_that_are_handed_in_or_returned(self):
        row, part = [("times", N, [("write", "x")])], ("new", 1, [("times", N, [])])
        shop = Workshop(PAIR)
        shop.do(("splice", "main", (), 0, 0, row))
        shop.do(("add", 0, part))
        kept = shop.log()
        self.assertFalse(same_list_twice(kept))
        row[0][2].append(("write", "y"))
        part[2].append(("write", "y"))
        self.assertEqual(shop.log(), kept)
        spoil(shop.log())
        spoil(shop.marks())
        self.assertEqual(shop.log(), kept)
        self.assertEqual(len(lists_within(kept)), 5)
        deeds = [MORE]
        self.assertEqual(shop.together(deeds), shop.program)
        self.assertEqual(deeds, [MORE])


class Marks(unittest.TestCase):
    def test_words_and_places(self):
        shop = Workshop(PAIR)
        for word in ["", "a" * 13, "A", "a b", None, 1]:
            self.assertIsInstance(raised(lambda: shop.mark(word, None)), InvalidWord)
        for place in [None, ("main", (2,)), ("main", (0, 0, 0)), ["main", (0,)]]:
            self.assertIsInstance(raised(lambda: shop.mark("a" * 12, place)), InvalidPlace)
        self.assertIsNone(shop.mark("b", ("main", (0,))))
        shop.mark("a" * 12, ("main", (0,)))
        shop.mark("b", ("low", (0, 0, 0)))
        self.assertEqual(shop.marks(), [("a" * 12, ("main", (0,))), ("b", ("low", (0, 0, 0)))])
        self.assertEqual(shop.many_deeds, 0)

    def test_statements_go_and_come_back(self):
        shop = Workshop(PAIR)
        shop.mark("c", ("main", (1,)))
        shop.do(("splice", "main", (), 0, 2, []))
        self.assertEqual(shop.marks(), [("c", None)])
        shop.do(MORE[:3] + (0,) + MORE[4:])
        shop.undo()
        shop.undo()
        self.assertEqual(shop.marks(), [("c", ("main", (1,)))])
        shop.redo()
        self.assertEqual(shop.marks(), [("c", None)])

    def test_what_is_put_anew_is_another_statement(self):
        shop = Workshop(PAIR)
        shop.do(MORE)
        shop.mark("x", ("main", (2,)))
        shop.undo()
        self.assertEqual(shop.marks(), [("x", None)])
        shop.redo()
        self.assertEqual(shop.marks(), [("x", ("main", (2,)))])
        shop.undo()
        shop.do(MORE)
        self.assertEqual(shop.marks(), [("x", None)])
        shop.undo()
        shop.redo()
        self.assertEqual(shop.marks(), [("x", None)])
        shop.mark("x", ("main", (2,)))
        self.assertEqual(shop.marks(), [("x", ("main", (2,)))])

    def test_marks_that_are_put_while_deeds_are_undone(self):
        shop = Workshop(PAIR)
        shop.do(AHEAD)
        shop.undo()
        shop.mark("c", ("main", (1,)))
        shop.redo()
        self.assertEqual(shop.marks(), [("c", ("main", (2,)))])
        shop.undo()
        shop.do(("splice", "main", (), 0, 1, []))
        self.assertEqual(shop.marks(), [("c", ("main", (0,)))])

    def test_marks_follow_through_each_kind_of_deed(self):
        shop = Workshop(PAIR)
        shop.mark("loop", ("low", (0,)))
        shop.mark("call", ("main", (0,)))
        shop.mark("tail", ("main", (1,)))
        rows = []
        for deed in [("rename", "low", "row"), ("out", "main", (), 1, 1, "end"), ("in", "main", (0,)), ("in", "main", (1,)),
                     ("drop", "end"), ("add", 0, ("first", 0, [])), ("drop", "row")]:
            shop.do(deed)
            rows.append([place for _, place in shop.marks()])
        self.assertEqual(rows, [[("main", (0,)), ("row", (0,)), ("main", (1,))], [("main", (0,)), ("row", (0,)), ("end", (0,))],
                                [None, ("row", (0,)), ("end", (0,))], [None, ("row", (0,)), ("end", (0,))],
                                [None, ("row", (0,)), None], [None, ("row", (0,)), None], [None, None, None]])
        for row in reversed(rows[:-1]):
            shop.undo()
            self.assertEqual([place for _, place in shop.marks()], row)

    def test_what_in_has_made_is_not_there_when_it_is_undone(self):
        shop = Workshop(PAIR)
        shop.do(("in", "main", (0,)))
        shop.mark("made", ("main", (0, 0, 0)))
        shop.mark("old", ("low", (0, 0, 0)))
        shop.undo()
        self.assertEqual(shop.marks(), [("made", None), ("old", ("low", (0, 0, 0)))])
        shop.redo()
        self.assertEqual(shop.marks(), [("made", ("main", (0, 0, 0))), ("old", ("low", (0, 0, 0)))])
        shop.undo()
        shop.do(("in", "main", (0,)))
        self.assertEqual(shop.marks(), [("made", None), ("old", ("low", (0, 0, 0)))])


class Trials(unittest.TestCase):
    def test_the_name_is_the_object_and_all_is_set_back(self):
        shop = Workshop(PAIR)
        shop.do(MORE)
        shop.do(AHEAD)
        shop.undo()
        shop.mark("c", ("main", (1,)))
        before = state(shop)
        made = shop.trial()
        with made as trial:
            self.assertIs(trial, made)
            shop.undo()
            shop.do(AHEAD)
            shop.mark("c", ("main", (0,)))
            shop.mark("d", ("main", (0,)))
            self.assertEqual(shop.many_deeds, 1)
        self.assertEqual(state(shop), before)
        self.assertIsNone(shop.redo())

    def test_it_begins_with_the_block(self):
        shop = Workshop(PAIR)
        made = shop.trial()
        shop.do(MORE)
        with made:
            shop.do(AHEAD)
        self.assertEqual(shop.log(), [MORE])
        made.keep()
        self.assertEqual(shop.log(), [MORE])
        with made:
            shop.do(AHEAD)
        self.assertEqual(shop.log(), [MORE])
        with made:
            made.keep()
            shop.do(AHEAD)
        self.assertEqual(shop.log(), [MORE, AHEAD])

    def test_errors_are_raised_on(self):
        for keeps, log in [(False, []), (True, [MORE, AHEAD])]:
            shop = Workshop(PAIR)
            with self.assertRaises(Stop):
                with shop.trial() as trial:
                    shop.do(MORE)
                    if keeps:
                        trial.keep()
                    shop.do(AHEAD)
                    raise Stop()
            self.assertEqual(shop.log(), log)
            with self.assertRaises(InvalidDeed):
                with shop.trial():
                    shop.do(MORE)
                    shop.do(None)
            self.assertEqual(shop.log(), log)

    def test_what_a_trial_within_a_trial_keeps_falls_back_with_the_outer_one(self):
        for outer, inner, log in [(False, False, []), (False, True, []), (True, False, [MORE]), (True, True, [MORE, AHEAD])]:
            shop = Workshop(PAIR)
            with shop.trial() as trial:
                if outer:
                    trial.keep()
                shop.do(MORE)
                with shop.trial() as second:
                    shop.do(AHEAD)
                    if inner:
                        second.keep()
                self.assertEqual(shop.log(), [MORE, AHEAD] if inner else [MORE])
            self.assertEqual(shop.log(), log)

    def test_deeds_that_fall_back_are_no_deeds(self):
        shop = Workshop(PAIR)
        shop.do(MORE)
        shop.undo()
        with shop.trial():
            shop.do(AHEAD)
        self.assertIsNone(shop.redo())
        self.assertEqual(shop.log(), [MORE])


ENDINGS = ["end", "error", "return", "break", "continue"]


def marked_shop():
    """Return a workshop with a mark, a deed that stands and one that is undone."""
    shop = Workshop(PAIR)
    shop.do(MORE)
    shop.do(AHEAD)
    shop.undo()
    shop.mark("c", ("main", (1,)))
    return shop


def left(shop, trial, keeps, ending):
    """Go through a block that ends in some way, and return what the workshop told in the end of it."""
    for _ in [1]:
        with trial as held:
            shop.undo()
            shop.mark("d", ("main", (0,)))
            shop.do(MORE)
            shop.do(AHEAD)
            if keeps:
                held.keep()
            shop.do(AHEAD)
            shop.undo()
            shop.mark("c", ("main", (0,)))
            inside = state(shop)
            if ending == "error":
                raise Stop(inside)
            if ending == "return":
                return inside
            if ending == "break":
                break
            if ending == "continue":
                continue
    return inside


def left_at_last(shop, trial, keeps, ending):
    """Do what `left` does, and take what is told from the error if there is one."""
    try:
        return left(shop, trial, keeps, ending)
    except Stop as stop:
        return stop.args[0]


class Endings(unittest.TestCase):
    """Each way in which a block ends, kept and not kept."""

    def test_an_object_that_is_new(self):
        for ending in ENDINGS:
            for keeps in [False, True]:
                shop = marked_shop()
                before = state(shop)
                inside = left_at_last(shop, shop.trial(), keeps, ending)
                self.assertNotEqual(inside, before)
                self.assertEqual(state(shop), inside if keeps else before, (ending, keeps))

    def test_an_object_that_is_entered_a_second_time(self):
        for first, ending in [(first, ending) for first in ENDINGS for ending in ENDINGS]:
            for kept, keeps, late in [(kept, keeps, late) for kept in [False, True] for keeps in [False, True]
                                      for late in [False, True]]:
                shop = marked_shop()
                trial = shop.trial()
                left_at_last(shop, trial, kept, first)
                # What is done between the blocks stands, whatever the first one was.
                shop.do(("splice", "main", (), 1, 0, [("write", "z")]))
                shop.do(AHEAD)
                shop.undo()
                if late:
                    self.assertIsNone(trial.keep())
                before = state(shop)
                inside = left_at_last(shop, trial, keeps, ending)
                self.assertNotEqual(inside, before)
                self.assertEqual(state(shop), inside if keeps else before, (first, ending, kept, keeps, late))

    def test_one_within_another_one(self):
        self.go_through_two(lambda shop, trial: shop.trial())

    def test_one_object_within_its_own_block(self):
        self.go_through_two(lambda shop, trial: trial)

    def go_through_two(self, second):
        """Go through one block within another one, for all endings and for what is kept."""
        for inner, outer in [(inner, outer) for inner in ENDINGS for outer in ["end", "error"]]:
            for keeps, holds, early in [(keeps, holds, early) for keeps in [False, True] for holds in [False, True]
                                        for early in [False, True]]:
                shop = marked_shop()
                before, states = state(shop), []
                try:
                    with shop.trial() as trial:
                        shop.do(("splice", "main", (), 1, 0, [("write", "z")]))
                        shop.do(AHEAD)
                        shop.undo()
                        ahead = state(shop)
                        if holds and early:
                            self.assertIsNone(trial.keep())
                        inside = left_at_last(shop, second(shop, trial), keeps, inner)
                        self.assertEqual(state(shop), inside if keeps else ahead)
                        if holds and not early:
                            self.assertIsNone(trial.keep())
                        if outer == "error":
                            raise Stop()
                except Stop:
                    states.append("error")
                self.assertEqual(states, ["error"] if outer == "error" else [])
                kept = inside if keeps else ahead
                self.assertEqual(state(shop), kept if holds else before, (inner, outer, keeps, holds, early))

    def test_an_error_that_ends_both_blocks(self):
        for keeps, holds, same in [(keeps, holds, same) for keeps in [False, True] for holds in [False, True]
                                   for same in [False, True]]:
            shop = marked_shop()
            before = state(shop)
            with self.assertRaises(Stop) as caught:
                with shop.trial() as trial:
                    shop.do(MORE)
                    ahead = state(shop)
                    if holds:
                        trial.keep()
                    left(shop, trial if same else shop.trial(), keeps, "error")
            inside = caught.exception.args[0]
            self.assertEqual(state(shop), (inside if keeps else ahead) if holds else before)

    def test_one_object_twice_within_another_one(self):
        for kept, keeps in [(kept, keeps) for kept in [False, True] for keeps in [False, True]]:
            shop = marked_shop()
            before, again = state(shop), shop.trial()
            with shop.trial():
                first = left(shop, again, kept, "end")
                ahead = state(shop)
                self.assertEqual(ahead, first if kept else before)
                shop.do(MORE)
                shop.do(AHEAD)
                shop.undo()
                ahead = state(shop)
                second = left(shop, again, keeps, "return")
                self.assertEqual(state(shop), second if keeps else ahead)
            self.assertEqual(state(shop), before)
            inside = left(shop, again, keeps, "break")
            self.assertEqual(state(shop), inside if keeps else before)

    def test_one_object_within_its_own_blocks_and_those_of_another_one(self):
        for first, second, third, fourth in product([False, True], repeat=4):
            shop = Workshop(PAIR)
            one, other, logs = shop.trial(), shop.trial(), []
            with one:
                shop.do(MORE)
                with other:
                    shop.do(AHEAD)
                    with one:
                        shop.do(MORE)
                        with one:
                            shop.do(AHEAD)
                            if fourth:
                                one.keep()
                        logs.append(shop.log())
                        if third:
                            one.keep()
                    logs.append(shop.log())
                    if second:
                        other.keep()
                logs.append(shop.log())
                if first:
                    one.keep()
            logs.append(shop.log())
            fallen = [MORE, AHEAD, MORE] + ([AHEAD] if fourth else [])
            expected = [fallen]
            for keeps, ahead in [(third, [MORE, AHEAD]), (second, [MORE]), (first, [])]:
                fallen = fallen if keeps else ahead
                expected.append(fallen)
            self.assertEqual(logs, expected)

    def test_one_object_within_its_own_block_again_and_again(self):
        shop = Workshop(PAIR)
        trial = shop.trial()

        def go_in(depth):
            with trial:
                shop.do(AHEAD)
                shop.mark("m", ("main", (0,)))
                before = state(shop)
                if depth > 0:
                    for _ in range(2):
                        go_in(depth - 1)
                        self.assertEqual(state(shop), before)

        before = state(shop)
        go_in(5)
        self.assertEqual(state(shop), before)
        self.assertIsNone(trial.keep())
        go_in(2)
        self.assertEqual(state(shop), before)

    def test_keep_is_for_the_innermost_block_of_its_object(self):
        shop = Workshop(PAIR)
        one, other = shop.trial(), shop.trial()
        with one:
            shop.do(MORE)
            with other:
                shop.do(AHEAD)
                with other:
                    shop.do(AHEAD)
                    one.keep()
                self.assertEqual(shop.log(), [MORE, AHEAD])
            self.assertEqual(shop.log(), [MORE])
        self.assertEqual(shop.log(), [MORE])
        with one:
            shop.do(AHEAD)
            with one:
                one.keep()
                shop.do(MORE)
            self.assertEqual(shop.log(), [MORE, AHEAD, MORE])
        self.assertEqual(shop.log(), [MORE])

    def test_the_error_itself_is_raised_on(self):
        for error in [Stop("x"), ValueError(1), InvalidDeed(None), StopIteration(), KeyboardInterrupt(), GeneratorExit()]:
            for keeps in [False, True]:
                shop = marked_shop()
                before = state(shop)
                with self.assertRaises(type(error)) as caught:
                    with shop.trial() as trial:
                        shop.do(MORE)
                        if keeps:
                            trial.keep()
                        raise error
                self.assertIs(caught.exception, error)
                self.assertEqual([state(shop) == before, shop.many_deeds], [not keeps, 2 if keeps else 1])

    def test_what_is_returned_from_the_block(self):
        shop = marked_shop()

        def program_made(keeps):
            with shop.trial() as trial:
                if keeps:
                    self.assertIsNone(trial.keep())
                    self.assertIsNone(trial.keep())
                shop.do(MORE)
                return shop.program

        made, before = program_made(False), state(shop)
        self.assertEqual([made == shop.program, shop.many_deeds], [False, 1])
        self.assertEqual(state(shop), before)
        self.assertEqual([program_made(True) == made, shop.program == made, shop.many_deeds], [True, True, 2])

    def test_keep_ahead_of_the_block_and_of_another_object_has_no_effect(self):
        shop, other = marked_shop(), marked_shop()
        before, trial, second, far = state(shop), shop.trial(), shop.trial(), other.trial()
        self.assertIsNone(trial.keep())
        with trial:
            shop.do(MORE)
            second.keep()
            far.keep()
        self.assertEqual(state(shop), before)
        with far:
            with trial:
                other.do(MORE)
                shop.do(MORE)
                trial.keep()
        self.assertEqual([shop.many_deeds, other.many_deeds], [2, 1])

    def test_a_block_in_which_nothing_is_done(self):
        shop = marked_shop()
        before, trial = state(shop), shop.trial()
        for keeps in [False, True, False]:
            with trial:
                if keeps:
                    trial.keep()
            self.assertEqual(state(shop), before)


class Together(unittest.TestCase):
    def test_several_deeds(self):
        shop = Workshop(PAIR)
        made = shop.together([MORE, AHEAD])
        self.assertEqual([made, shop.log()], [shop.program, [MORE, AHEAD]])
        shop.undo()
        self.assertEqual(shop.together([]), shop.program)
        self.assertIsNone(shop.redo())
        made = shop.together([("drop", "main"), ("drop", "low")], keep=False)
        self.assertEqual([made, shop.many_deeds], [Program([]), 2])
        self.assertEqual(shop.together([("drop", "main")], keep=True).parts(), [LOW])

    def test_wrong_arguments(self):
        shop = Workshop(PAIR)
        for bad in [None, (), (MORE,), MORE, "", {}]:
            self.assertIsInstance(raised(lambda: shop.together(bad, keep=None)), InvalidList)
        for bad in [None, 0, 1, "", []]:
            self.assertIsInstance(raised(lambda: shop.together([None], keep=bad)), InvalidFlag)
        self.assertIsInstance(raised(lambda: shop.together([None])), InvalidDeed)
        with self.assertRaises(TypeError):
            shop.together([], True)

    def test_marks_and_undone_deeds_fall_back_too(self):
        shop = Workshop(PAIR)
        shop.do(MORE)
        shop.undo()
        shop.mark("c", ("main", (1,)))
        before = state(shop)
        shop.together([AHEAD], keep=False)
        self.assertEqual(state(shop), before)
        shop.together([AHEAD])
        self.assertEqual(shop.marks(), [("c", ("main", (2,)))])
        self.assertIsInstance(raised(shop.redo), NothingToRedo)


if __name__ == "__main__":
    unittest.main()
