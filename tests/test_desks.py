"""Points 34 to 39: the desk; of 3, 4 and 36 what they say of it."""

import copy
import inspect
import random
import unittest

import oracle
from objects import any_objects, shape
from toldenough.errors import (BadDeed, BadLabel, BadLies, BadName, BadPoint, Held, NoDeed, NotHeld, NotWatched,
                               ToldError, Watched)
from toldenough.fitting import settled
from toldenough.guessing import Guesser
from toldenough.kinds import Boxes, Flats, Halves, Rising, Turns
from toldenough.samples import Sample
from toldenough.desks import Desk

NO_WORDS = ["", "abcdefghi", "A", "aB", "a1", "1", "a b", " a", "a ", "a\n", "-", "a_b", "a" * 100]
NAMES = ["a", "b", "ab", "z", "abcdefgh", "yes", "put"]


def objects():
    """Return objects of all kinds, desks and guessers among them; the strings "a" and "yes" are words."""
    return [*any_objects(), 0, 1, -1, 10 ** 15, Desk(Halves(1)), Guesser(Halves(1), []), ["a"], ("put", "a")]


def no_words():
    return [thing for thing in [*objects(), *NO_WORDS] if thing not in ("a", "yes")]


def seen(desk):
    """Return all that a desk shows but for what can be undone."""
    return shape([desk.names(), desk.sample().examples(), desk.lies, list(desk.states().items()), len(desk)])


def history(desk):
    """Return all that a desk shows, with what it shows behind each undo and each again; the desk is as before."""
    rows = [seen(desk)]
    back = on = 0
    try:
        while True:
            desk.undo()
            back += 1
            rows.append(seen(desk))
    except NoDeed:
        pass
    for _ in range(back):
        desk.again()
    try:
        while True:
            desk.again()
            on += 1
            rows.append(seen(desk))
    except NoDeed:
        pass
    for _ in range(on):
        desk.undo()
    return back, on, rows


def small_desk():
    desk = Desk(Halves(1))
    desk.watch("low", (-9,))
    desk.watch("mid", (2,))
    desk.watch("high", (9,))
    desk.put("one", (1,), True)
    desk.put("four", (4,), False)
    return desk


class Interface(unittest.TestCase):

    def test_the_methods_stand_in_the_class_itself(self):
        self.assertEqual(Desk.__module__, "toldenough.desks")
        wanted = {"__init__": "(self, kind, *, lies=0)", "names": "(self)", "sample": "(self)",
                  "put": "(self, name, point, label)", "drop": "(self, name)", "allow": "(self, lies)",
                  "watch": "(self, name, point)", "unwatch": "(self, name)", "state": "(self, name)",
                  "states": "(self)", "undo": "(self)", "again": "(self)", "would": "(self, deeds)",
                  "trial": "(self, work)"}
        for name, parameters in wanted.items():
            self.assertEqual(str(inspect.signature(vars(Desk)[name])), parameters)
        self.assertIn("__len__", vars(Desk))
        self.assertIn("__contains__", vars(Desk))
        with self.assertRaises(TypeError):
            Desk(Halves(1), 1)

    def test_arguments_by_name(self):
        desk = Desk(lies=1, kind=Halves(1))
        self.assertIsNone(desk.watch(point=(0,), name="p"))
        self.assertEqual(desk.put(label=True, point=(0,), name="a"), [])
        self.assertEqual(desk.would(deeds=[("allow", 0)]), [("p", "yes")])
        self.assertEqual(desk.allow(lies=0), [("p", "yes")])
        self.assertEqual(desk.state(name="p"), "yes")
        self.assertEqual(desk.trial(work=len), 1)
        self.assertEqual(desk.drop(name="a"), [("p", "open")])
        self.assertIsNone(desk.unwatch(name="p"))

    def test_attributes(self):
        for kind in (Turns(3), ~Flats(2) & Halves(2), Boxes(3) + Rising(3)):
            desk = Desk(kind)
            self.assertEqual((desk.kind, desk.kind.text()), (kind, kind.text()))
            self.assertEqual(shape(desk.lies), shape(0))
            self.assertEqual(shape(Desk(kind, lies=3).lies), shape(3))

    def test_a_new_desk_is_empty(self):
        desk = Desk(Flats(2), lies=2)
        self.assertEqual(shape(desk.names()), shape([]))
        self.assertEqual(desk.sample(), Sample(2))
        self.assertEqual(shape(len(desk)), shape(0))
        self.assertEqual(desk.states(), {})
        for function in (desk.undo, desk.again):
            with self.assertRaises(NoDeed):
                function()


class Deeds(unittest.TestCase):

    def test_put_drop_and_allow(self):
        desk = small_desk()
        self.assertEqual(shape(desk.names()), shape(["one", "four"]))
        self.assertEqual(desk.sample(), Sample(1, [((1,), True), ((4,), False)]))
        self.assertEqual(shape(list(desk.states().items())), shape([("high", "no"), ("low", "yes"), ("mid", "open")]))
        self.assertEqual(shape(desk.put("more", [3], True)), shape([("mid", "yes")]))
        self.assertEqual(desk.names(), ["one", "four", "more"])
        self.assertEqual(shape(desk.allow(1)), shape([("high", "open"), ("low", "open"), ("mid", "open")]))
        self.assertEqual(shape(desk.lies), shape(1))
        self.assertEqual(shape(desk.drop("one")), shape([]))
        self.assertEqual(desk.names(), ["four", "more"])
        self.assertEqual(desk.sample(), Sample(1, [((4,), False), ((3,), True)]))
        self.assertEqual(shape(desk.allow(0)), shape([("high", "no"), ("low", "yes"), ("mid", "yes")]))
        self.assertEqual(shape(len(desk)), shape(2))

    def test_an_example_that_is_put_again_stands_at_the_end(self):
        desk = small_desk()
        desk.drop("one")
        desk.put("one", (0,), True)
        self.assertEqual(desk.names(), ["four", "one"])
        self.assertEqual(desk.sample().examples(), [((4,), False), ((0,), True)])

    def test_equal_examples_under_unlike_names(self):
        desk = Desk(Turns(0))
        desk.watch("p", (9,))
        self.assertEqual(desk.put("a", (0,), True), [("p", "yes")])
        self.assertEqual(desk.put("b", (0,), True), [])
        self.assertEqual(desk.put("c", (0,), False), [("p", "none")])
        self.assertEqual(desk.drop("a"), [])
        self.assertEqual(desk.drop("c"), [("p", "yes")])
        self.assertEqual(desk.sample().examples(), [((0,), True)])

    def test_names_as_objects(self):
        desk = small_desk()
        for name in ("one", "four"):
            self.assertIs(name in desk, True)
        for thing in [*objects(), "low", "mid", "on", "ones", "ONE", "one ", ("one",), ["one"], {"one": "one"}]:
            self.assertIs(thing in desk, False)

    def test_returned_things_are_new_and_arguments_are_copied(self):
        desk = small_desk()
        before = history(desk)
        desk.names().clear()
        desk.states().clear()
        desk.sample().examples().clear()
        desk.would([("drop", "one")]).clear()
        self.assertEqual(history(desk), before)
        point, place, deeds = [2], [3], [["put", "b", [3], True], ("drop", "one")]
        kept = copy.deepcopy((point, place, deeds))
        desk.put("a", point, True)
        desk.watch("q", place)
        desk.would(deeds)
        self.assertEqual(shape((point, place, deeds)), shape(kept))
        before = history(desk)
        point[0], place[0] = 99, 99
        self.assertEqual(history(desk), before)
        self.assertEqual(shape(desk.sample().examples()[2]), shape(((2,), True)))

    def test_two_desks_are_apart(self):
        one, other = small_desk(), small_desk()
        one.put("x", (2,), True)
        one.unwatch("low")
        self.assertEqual(other.names(), ["one", "four"])
        self.assertEqual(list(other.states()), ["high", "low", "mid"])


class Watching(unittest.TestCase):

    def test_names_of_points_and_of_examples_do_not_bar_one_another(self):
        desk = small_desk()
        self.assertIsNone(desk.watch("one", (1,)))
        desk.put("low", (-9,), True)
        self.assertEqual(desk.names(), ["one", "four", "low"])
        self.assertEqual(shape(list(desk.states())), shape(["high", "low", "mid", "one"]))
        self.assertEqual(desk.drop("one"), [("one", "open")])
        self.assertEqual(desk.state("one"), "open")
        desk.unwatch("one")
        self.assertEqual(desk.names(), ["four", "low"])

    def test_states_are_ascending(self):
        desk = Desk(Rising(1))
        for name in NAMES:
            desk.watch(name, (0,))
        self.assertEqual(list(desk.states()), sorted(NAMES))
        self.assertEqual(desk.put("x", (0,), True), [(name, "yes") for name in sorted(NAMES)])

    def test_each_state(self):
        desk = small_desk()
        self.assertEqual([desk.state(name) for name in ("low", "mid", "high")], ["yes", "open", "no"])
        self.assertEqual(desk.put("zero", (0,), False), [("high", "none"), ("low", "none"), ("mid", "none")])
        self.assertEqual(desk.state("mid"), "none")

    def test_watching_is_no_deed(self):
        desk = small_desk()
        desk.undo()
        desk.watch("new", (4,))
        desk.unwatch("mid")
        self.assertEqual(desk.again(), [("high", "no"), ("low", "yes"), ("new", "no")])
        desk.unwatch("new")
        desk.undo()
        self.assertEqual(list(desk.states()), ["high", "low"])
        self.assertEqual(desk.names(), ["one"])

    def test_watched_again(self):
        desk = small_desk()
        desk.unwatch("low")
        desk.watch("low", (4,))
        self.assertEqual(desk.state("low"), "no")


class UndoAndAgain(unittest.TestCase):

    def test_deeds_taken_back_and_done_again(self):
        desk = small_desk()
        desk.allow(1)
        desk.drop("one")
        self.assertEqual(desk.undo(), [])
        self.assertEqual(desk.names(), ["one", "four"])
        self.assertEqual(shape(desk.undo()), shape([("high", "no"), ("low", "yes")]))
        self.assertEqual(shape(desk.lies), shape(0))
        self.assertEqual(shape(desk.undo()), shape([("high", "open"), ("low", "open")]))
        self.assertEqual(desk.undo(), [])
        self.assertEqual(desk.names(), [])
        with self.assertRaises(NoDeed):
            desk.undo()
        self.assertEqual(desk.again(), [])
        self.assertEqual(desk.again(), [("high", "no"), ("low", "yes")])
        self.assertEqual(desk.again(), [("high", "open"), ("low", "open")])
        self.assertEqual((desk.lies, desk.names()), (1, ["one", "four"]))
        self.assertEqual(desk.again(), [])
        self.assertEqual(desk.names(), ["four"])
        with self.assertRaises(NoDeed):
            desk.again()

    def test_the_order_comes_back(self):
        desk = Desk(Boxes(1))
        for name in ("c", "a", "b"):
            desk.put(name, (0,), True)
        desk.drop("c")
        desk.put("c", (5,), True)
        desk.undo()
        desk.undo()
        self.assertEqual(desk.names(), ["c", "a", "b"])
        self.assertEqual(desk.sample().examples(), [((0,), True)] * 3)

    def test_lies_changed_to_the_number_that_they_were(self):
        desk = small_desk()
        self.assertEqual(desk.allow(0), [])
        self.assertEqual(history(desk)[0], 3)
        self.assertEqual(desk.undo(), [])
        self.assertEqual(desk.names(), ["one", "four"])
        self.assertEqual(desk.again(), [])
        self.assertEqual(desk.undo(), [])
        self.assertEqual(desk.undo(), [("high", "open"), ("low", "open")])

    def test_a_new_deed_behind_undo(self):
        for deed in (lambda desk: desk.put("b", (2,), True), lambda desk: desk.drop("one"), lambda desk: desk.allow(0)):
            desk = small_desk()
            desk.undo()
            deed(desk)
            with self.assertRaises(NoDeed):
                desk.again()
            desk.undo()
            self.assertEqual(desk.names(), ["one"])
            desk.again()

    def test_a_call_in_error_is_no_deed(self):
        desk = small_desk()
        desk.undo()
        before = history(desk)
        self.assertEqual(before[:2], (1, 1))
        for call in (lambda: desk.put("", (1,), True), lambda: desk.put("one", (1,), True), lambda: desk.drop("four"),
                     lambda: desk.put("b", (1, 2), True), lambda: desk.put("b", (1,), 1), lambda: desk.allow(-1),
                     lambda: desk.watch("low", (1,)), lambda: desk.unwatch("one"), lambda: desk.state("one"),
                     lambda: desk.would([("drop", "four")]), lambda: desk.would([("put",)])):
            with self.assertRaises(ToldError):
                call()
            self.assertEqual(history(desk), before)
        self.assertEqual(desk.again(), [("high", "no"), ("low", "yes")])


class Would(unittest.TestCase):

    def test_news_against_the_states_of_now(self):
        desk = small_desk()
        before = history(desk)
        self.assertEqual(shape(desk.would([])), shape([]))
        self.assertEqual(shape(desk.would(())), shape([]))
        self.assertEqual(shape(desk.would([("put", "b", (3,), True)])), shape([("mid", "yes")]))
        self.assertEqual(desk.would([("put", "b", (3,), True), ("drop", "b")]), [])
        self.assertEqual(desk.would([("drop", "one"), ("put", "one", (2,), False)]), [("high", "open"), ("low", "open"),
                                                                                     ("mid", "no")])
        self.assertEqual(desk.would([("allow", 1), ("allow", 2), ("allow", 0)]), [])
        self.assertEqual(desk.would((["allow", 1], ["drop", "one"])), [("high", "open"), ("low", "open")])
        self.assertEqual(desk.would([["put", "b", [3], True]]), [("mid", "yes")])
        self.assertEqual(desk.would([("put", "low", (0,), False)]),
                         [("high", "none"), ("low", "none"), ("mid", "none")])
        self.assertEqual(history(desk), before)

    def test_things_that_are_no_deeds(self):
        desk = small_desk()
        before = history(desk)
        good = ("put", "b", (3,), True)
        wrong = [*objects(), ("put",), ("put", "b"), ("put", "b", (3,)), ("put", "b", (3,), True, True), ("drop",),
                 ("drop", "a", "b"), ("allow",), ["allow", 1, 1], ("Put", "b", (3,), True), ("watch", "b", (3,)),
                 ("undo",), ("", "a"), "drop", "allow", (["put"], "b", (3,), True), (None, 1), ({}, 1),
                 (Halves(1), "a"), {"drop": "a", "allow": 1}, ("unwatch", "low"), (("drop", "one"),),
                 ("put", ("b", (3,), True)), (1, 2)]
        for thing in wrong:
            for at in range(3):
                for deeds in ([*[good] * at, thing, good], (*[("drop", "nobody")] * at, thing, None)):
                    with self.subTest(thing=thing, at=at):
                        with self.assertRaises(BadDeed) as caught:
                            desk.would(deeds)
                        self.assertEqual(shape(caught.exception.index), shape(at))
        self.assertEqual(history(desk), before)

    def test_what_is_no_list(self):
        desk = small_desk()
        for thing in objects():
            if not isinstance(thing, (list, tuple)):
                with self.assertRaises(BadDeed) as caught:
                    desk.would(thing)
                self.assertEqual(shape(caught.exception.index), shape(0))
        with self.assertRaises(BadDeed) as caught:
            desk.would(("drop", "one"))
        self.assertEqual(caught.exception.index, 0)

    def test_deeds_of_which_one_cannot_be_done(self):
        desk = small_desk()
        before = history(desk)
        point, label, name, lies = [1, 2], [True], "", True
        first = [("drop", "one"), ("put", "one", (0,), True), ("allow", 3)]
        for deed, error, attribute, thing in ((("put", name, point, label), BadName, "name", name),
                                              (("put", "four", point, label), Held, "name", "four"),
                                              (("put", "one", (0,), True), Held, "name", "one"),
                                              (("put", "b", point, label), BadPoint, "point", point),
                                              (("put", "b", (1,), label), BadLabel, "label", label),
                                              (("drop", "two"), NotHeld, "name", "two"),
                                              (("drop", label), NotHeld, "name", label),
                                              (("allow", lies), BadLies, "lies", lies)):
            for deeds in ([*first, deed], [*first, deed, ("drop", "nobody"), ("allow", -1)]):
                with self.assertRaises(error) as caught:
                    desk.would(deeds)
                self.assertIs(getattr(caught.exception, attribute), thing)
        with self.assertRaises(NotHeld):
            desk.would([("drop", "one"), ("drop", "one")])
        with self.assertRaises(Held):
            desk.would([("put", "b", (0,), True), ["put", "b", (0,), True]])
        self.assertEqual(history(desk), before)


class Trials(unittest.TestCase):

    def test_what_is_returned(self):
        desk, thing = small_desk(), [object()]
        self.assertIs(desk.trial(lambda given: given), desk)
        self.assertIs(desk.trial(lambda given: thing), thing)
        self.assertIsNone(desk.trial(lambda given: None))
        self.assertEqual(desk.trial(lambda given: given.put("b", (3,), True)), [("mid", "yes")])

    def test_deeds_in_a_trial(self):
        desk = small_desk()
        desk.allow(1)
        desk.undo()
        before = history(desk)

        def work(given):
            given.put("b", (3,), True)
            given.allow(3)
            given.drop("one")
            self.assertEqual((given.names(), given.lies, len(given)), (["four", "b"], 3, 2))
            with self.assertRaises(NoDeed):
                given.again()
            return given.states()

        self.assertEqual(desk.trial(work), {"high": "open", "low": "open", "mid": "open"})
        self.assertEqual(history(desk), before)
        self.assertEqual(desk.again(), [("high", "open"), ("low", "open")])

    def test_deeds_of_before_that_are_undone_in_it(self):
        desk = small_desk()
        before = history(desk)

        def work(given):
            given.undo()
            given.undo()
            given.put("z", (0,), False)
            return given.names()

        self.assertEqual(desk.trial(work), ["z"])
        self.assertEqual(history(desk), before)
        desk.undo()
        before = history(desk)
        self.assertEqual(desk.trial(lambda given: given.again()), [("high", "no"), ("low", "yes")])
        self.assertEqual(history(desk), before)

    def test_a_trial_that_ends_in_an_error(self):
        desk = small_desk()
        before = history(desk)
        failures = (KeyError("x"), NotHeld("b"), RuntimeError(), KeyboardInterrupt())
        for failure in failures:

            def work(given):
                given.drop("one")
                given.undo()
                given.undo()
                given.allow(2)
                raise failure

            with self.assertRaises(failure.__class__) as caught:
                desk.trial(work)
            self.assertIs(caught.exception, failure)
            self.assertEqual(history(desk), before)
        with self.assertRaises(NotHeld):
            desk.trial(lambda given: [given.drop("one"), given.drop("one")])
        self.assertEqual(history(desk), before)

    def test_one_within_another(self):
        desk = small_desk()
        before = history(desk)

        def inner(given):
            given.drop("b")
            given.undo()
            given.undo()
            given.undo()
            return given.names()

        def outer(given):
            given.put("b", (3,), True)
            within = history(given)
            first = given.trial(inner)
            self.assertEqual(history(given), within)
            with self.assertRaises(NotHeld):
                given.trial(lambda again: again.drop("c"))
            self.assertEqual(history(given), within)
            return first, given.names()

        self.assertEqual(desk.trial(outer), (["one"], ["one", "four", "b"]))
        self.assertEqual(history(desk), before)

    def test_points_that_are_watched_in_it_stay_so(self):
        desk = small_desk()

        def work(given):
            given.put("b", (3,), True)
            given.watch("three", (3,))
            given.unwatch("low")
            return given.state("three")

        self.assertEqual(desk.trial(work), "yes")
        self.assertEqual(list(desk.states().items()), [("high", "no"), ("mid", "open"), ("three", "open")])
        with self.assertRaises(Watched):
            desk.trial(lambda given: [given.unwatch("mid"), given.watch("four", (4,)), given.watch("four", (4,))])
        self.assertEqual(list(desk.states().items()), [("four", "no"), ("high", "no"), ("three", "open")])
        self.assertEqual(desk.names(), ["one", "four"])

    def test_would_in_a_trial(self):
        desk = small_desk()
        news = desk.trial(lambda given: [given.allow(2), given.would([("allow", 0)])])
        self.assertEqual(news, [[("high", "open"), ("low", "open")], [("high", "no"), ("low", "yes")]])


class Errors(unittest.TestCase):

    def setUp(self):
        self.desk = small_desk()
        self.before = history(self.desk)

    def tearDown(self):
        self.assertEqual(history(self.desk), self.before)

    def check(self, error, attribute, thing, call):
        with self.subTest(thing=thing):
            with self.assertRaises(error) as caught:
                call()
            self.assertIs(getattr(caught.exception, attribute), thing)

    def test_bad_lies(self):
        for thing in [*[thing for thing in objects() if not (type(thing) is int and thing >= 0)], -(10 ** 15)]:
            self.check(BadLies, "lies", thing, lambda: Desk(Halves(1), lies=thing))
            self.check(BadLies, "lies", thing, lambda: self.desk.allow(thing))

    def test_put(self):
        for thing in no_words():
            for point, label in (((0,), True), (None, None), ((0, 0), 1)):
                self.check(BadName, "name", thing, lambda: self.desk.put(thing, point, label))
        for name in ("one", "four"):
            for point, label in (((0,), True), (None, None), ((0, 0), 1)):
                self.check(Held, "name", name, lambda: self.desk.put(name, point, label))
        for thing in [(), (1, 2), (True,), ("1",), ((1,),), None, 1, "a", {0: 1}, [None], Sample(1), Desk(Boxes(1))]:
            for label in (True, None, 1):
                self.check(BadPoint, "point", thing, lambda: self.desk.put("b", thing, label))
        for thing in [thing for thing in objects() if not isinstance(thing, bool)]:
            self.check(BadLabel, "label", thing, lambda: self.desk.put("b", [0], thing))

    def test_drop(self):
        for thing in [*objects(), *NO_WORDS, "low", "two", ("one",), ["one"]]:
            self.check(NotHeld, "name", thing, lambda: self.desk.drop(thing))

    def test_watch(self):
        for thing in no_words():
            for point in ((0,), None, (0, 0)):
                self.check(BadName, "name", thing, lambda: self.desk.watch(thing, point))
        for name in ("low", "mid", "high"):
            for point in ((0,), None):
                self.check(Watched, "name", name, lambda: self.desk.watch(name, point))
        for thing in [(), (1, 2), (True,), ("1",), ((1,),), None, 1, "a", {0: 1}, [None], Sample(1), Desk(Boxes(1))]:
            self.check(BadPoint, "point", thing, lambda: self.desk.watch("one", thing))

    def test_unwatch_and_state(self):
        for thing in [*objects(), *NO_WORDS, "one", "lo", ("low",), ["low"]]:
            self.check(NotWatched, "name", thing, lambda: self.desk.unwatch(thing))
            self.check(NotWatched, "name", thing, lambda: self.desk.state(thing))

    def test_words_of_one_and_eight_letters(self):
        desk = Desk(Boxes(2))
        for name in ("a", "z", "abcdefgh", "zzzzzzzz"):
            desk.put(name, (0, 0), True)
            desk.watch(name, (0, 0))
        self.assertEqual(desk.names(), ["a", "z", "abcdefgh", "zzzzzzzz"])
        self.assertEqual(list(desk.states()), ["a", "abcdefgh", "z", "zzzzzzzz"])


class Model:
    """A desk told once more, with lists of all that was before."""

    def __init__(self, kind, lies):
        self.kind = kind
        self.now = ((), lies)
        self.past, self.ahead, self.points = [], [], {}

    def states(self, state=None):
        rows, lies = state or self.now
        sample = Sample(self.kind.places, [(point, label) for _, point, label in rows])
        return {name: settled(self.kind, sample, self.points[name], lies=lies) for name in sorted(self.points)}

    def news(self, state):
        before, now = self.states(), self.states(state)
        return [(name, now[name]) for name in sorted(now) if now[name] != before[name]]

    def behind(self, state, deed):
        rows, lies = state
        if deed[0] == "put":
            return (*rows, deed[1:]), lies
        if deed[0] == "drop":
            return tuple(row for row in rows if row[0] != deed[1]), lies
        return rows, deed[1]

    def moved(self, state):
        news = self.news(state)
        self.now = state
        return news


class AgainstAModel(unittest.TestCase):

    def random_deed(self, chance, model, rows, most):
        held = [row[0] for row in rows]
        free = [name for name in ("a", "b", "c", "dd", "eee", "f", "gg", "hhhhhhhh") if name not in held]
        word = chance.choice(("put", "put", "put", "drop", "allow"))
        if word == "put" and free and len(rows) < most:
            point = oracle.random_point(chance, model.kind.places, 3)
            return ("put", chance.choice(free), point, chance.random() < 0.5)
        if word == "drop" and held:
            return ("drop", chance.choice(held))
        return ("allow", chance.choice((0, 0, 1, 2)))

    def check(self, desk, model):
        rows, lies = model.now
        self.assertEqual(desk.names(), [row[0] for row in rows])
        self.assertEqual(shape(desk.sample().examples()), shape([row[1:] for row in rows]))
        self.assertEqual((desk.lies, len(desk)), (lies, len(rows)))
        self.assertEqual(shape(list(desk.states().items())), shape(list(model.states().items())))
        for name, point in model.points.items():
            self.assertEqual(desk.state(name), settled(desk.kind, desk.sample(), point, lies=desk.lies))

    def step(self, chance, desk, model, most):
        """Do one thing by chance at the desk and in the model."""
        way = chance.random()
        if way < 0.5:
            deed = self.random_deed(chance, model, model.now[0], most)
            call = {"put": desk.put, "drop": desk.drop, "allow": desk.allow}[deed[0]]
            following = model.behind(model.now, deed)
            model.past.append(model.now)
            model.ahead.clear()
            self.assertEqual(shape(call(*deed[1:])), shape(model.moved(following)))
        elif way < 0.75:
            call, ours, theirs = chance.choice(((desk.undo, model.past, model.ahead),
                                                (desk.again, model.ahead, model.past)))
            if ours:
                theirs.append(model.now)
                self.assertEqual(shape(call()), shape(model.moved(ours.pop())))
            else:
                with self.assertRaises(NoDeed):
                    call()
        elif way < 0.85:
            state, deeds = model.now, []
            for _ in range(chance.randint(0, 4)):
                deeds.append(self.random_deed(chance, model, state[0], most))
                state = model.behind(state, deeds[-1])
            self.assertEqual(shape(desk.would(deeds)), shape(model.news(state)))
        elif way < 0.95:
            name = chance.choice(("a", "b", "c", "dd", "x", "y"))
            if name in model.points:
                desk.unwatch(name)
                del model.points[name]
            else:
                model.points[name] = oracle.random_point(chance, model.kind.places, 4)
                desk.watch(name, model.points[name])
        else:
            self.trial(chance, desk, model, most)

    def trial(self, chance, desk, model, most):
        kept = (model.now, list(model.past), list(model.ahead))

        def work(given):
            for _ in range(4):
                self.step(chance, given, model, most)
                self.check(given, model)
            if chance.random() < 0.5:
                raise KeyError

        try:
            desk.trial(work)
        except KeyError:
            pass
        model.now, model.past, model.ahead = kept

    def test_each_kind(self):
        chance = random.Random(151)
        for spec, places, _, _ in oracle.cases(152, 60, 0):
            kind, lies = oracle.built(spec), chance.randint(0, 1)
            desk, model = Desk(kind, lies=lies), Model(kind, lies)
            with self.subTest(spec=spec):
                for _ in range(40):
                    self.step(chance, desk, model, 6 if oracle.is_split(spec) else 8)
                    self.check(desk, model)

    def test_eight_examples_and_six_watched_points(self):
        chance = random.Random(153)
        for spec in [*oracle.plain_specs(3), *oracle.plain_specs(1)]:
            kind = oracle.built(spec)
            desk, model = Desk(kind, lies=3), Model(kind, 3)
            for at, name in enumerate(("a", "b", "cc", "dd", "eee", "fff")):
                model.points[name] = tuple(chance.choice((-1, 1)) * 10 ** (3 * at) - 1 for _ in range(kind.places))
                desk.watch(name, model.points[name])
            for at in range(8):
                deed = ("put", "abcdefgh"[at], oracle.random_point(chance, kind.places, 99), chance.random() < 0.5)
                following = model.behind(model.now, deed)
                self.assertEqual(desk.put(*deed[1:]), model.moved(following))
                self.check(desk, model)
            for lies in (2, 1, 0):
                self.assertEqual(desk.would([("allow", lies)]), model.news((model.now[0], lies)))
                self.assertEqual(desk.allow(lies), model.moved((model.now[0], lies)))
                self.check(desk, model)


if __name__ == "__main__":
    unittest.main()
