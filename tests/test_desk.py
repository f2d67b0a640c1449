"""walksback.desk: commands, what is taken back, trials."""

import unittest
from unittest.mock import ANY

from support import STRANGE, Case, seeded, some_word, some_words
from walksback import errors
from walksback.base import base, further
from walksback.desk import Desk, Trial, tried
from walksback.errors import (
    CommandFailed, InvalidCommand, InvalidWord, NothingToUndo, TakenName, TooMany, UnknownName, UnknownWord,
)
from walksback.growing import chain
from walksback.likelots import covers
from walksback.lots import Lot
from walksback.settled import cut, is_settled, plan

TEN = "lot full a b c d e f g h i j"
WRONG_COMMANDS = (
    "lot", "lot ", "lot  some", " lot some", "lot some ", "lot some  a", "lot Some", "lot 1", "lot ninechars a",
    "lot some A", "lot some a a", "lot some a b a", "lot some " + "a" * 13, TEN + " k", "lot some a1", "lot some a\n",
    "Lot some", "LOT some", "lots some", "lot-some", "lot\nsome", "lot some\na",
    "keep", "keep some", "keep some a b", "keep some ", "keep  some a", "keep some A", "keep some " + "a" * 13,
    "keep ninechars a", "keep a1 a", "leave", "leave some", "leave some a b", "leave some A", "leave some " + "a" * 13,
    "drop", "drop some a", "drop ", "drop Some", "drop some ", "undo ", " undo", "undo some", "undo 1", "Undo",
    "ask", "ask some", "ask some a b", "ask some A", "ask some " + "a" * 25, "ask  some a", "ask some a ",
    "plan", "plan some", "plan some a b", "plan some " + "a" * 25, "cut", "cut some", "cut some 1", "cut some a b",
    "cut some " + "a" * 25, "chain some", "chain some a b", "chain some " + "a" * 25, "base", "base some a",
    "base Some",
    "further some", "further some a 2", "further some " + "a" * 25, "covers", "covers some", "covers some other more",
    "covers some ninechars", "covers ninechars some", "covers some A", "log", "names", "read some", "some", "a", "done",
)


class Mine(Exception):
    """An error of none of the package's kinds."""


def state(desk):
    """All that can be seen of a desk."""
    return desk.names(), [desk[name] for name in desk.names()], desk.log(), len(desk)


class CommandTest(Case):
    def test_ordinary(self):
        desk = Desk()
        self.assertEqual([[], 0, []], [desk.names(), len(desk), desk.log()])
        self.assertEqual("done", desk.do("lot some ab bc"))
        self.assertEqual("done", desk.do(command="lot none"))
        self.assertEqual([["none", "some"], 2, Lot(["ab", "bc"]), Lot()],
                         [desk.names(), len(desk), desk["some"], desk["none"]])
        self.assertEqual(["3", "2", "1", "0"], [desk.do(command) for command in (
            "keep some b", "leave some ab", "leave some b", "leave some bc")])
        self.assertEqual("done", desk.do("drop none"))
        self.assertEqual([["some"], Lot()], [desk.names(), desk["some"]])

    def test_the_example(self):
        desk = Desk()
        told = desk.do_all("lot some ab bc", "ask some abc", "cut some abc", "further some abc", "keep some b",
                           "plan some abc")
        self.assertEqual(["done", "no", "0 2", "a b c abc", "3", "0 ab 2 b 1 bc 3"], told)
        self.assertEqual("done", tried(desk, lambda held: held.do("undo")))
        self.assertEqual("b ab bc", desk.do("base some"))

    def test_questions(self):
        desk = Desk()
        desk.do_all("lot some ab b bc", "lot less ab bc", "lot none")
        for command, answer in (
                ("ask some abc", "yes"), ("ask less abc", "no"), ("ask none a", "no"), ("plan less abc", "-"),
                ("plan some ab", "0 ab 2"), ("cut some abc", "-"), ("cut less abc", "0 2"), ("cut none a", "0"),
                ("chain some abbc", "ab bc"), ("chain some abc", "-"), ("base some", "b ab bc"), ("base none", "-"),
                ("further some abc", "-"), ("further less abc", "a b c abc"), ("further none a", "a"),
                ("covers some less", "yes"), ("covers less some", "no"), ("covers none none", "yes"),
                ("covers some some", "yes"), ("ask some " + "abbc" * 6, "yes"), ("ask less " + "c" * 24, "no")):
            ahead = state(desk)
            self.assertEqual(answer, desk.do(command), command)
            self.assertEqual(answer, desk.do(command), command)
            self.assertEqual(ahead, state(desk))

    def test_questions_against_their_stages(self):
        source = seeded(995)
        desk = Desk()
        for turn in range(60):
            lot = Lot(some_words(source, "ab", 4, 3))
            other = Lot(some_words(source, "ab", 3, 3))
            word = some_word(source, "ab", 8)
            self.assertEqual(["done", "done"], desk.do_all(" ".join(["lot one", *lot.words()]),
                                                           " ".join(["lot other", *other.words()[::-1]])))
            self.assertEqual([lot, other], [desk["one"], desk["other"]])
            steps, places, words = plan(lot, word), cut(lot, word), chain(lot, word)
            self.assertEqual("yes" if is_settled(lot, word) else "no", desk.do(f"ask one {word}"))
            self.assertEqual("-" if steps is None else "0" + "".join(f" {by} {goal}" for _, by, goal in steps),
                             desk.do(f"plan one {word}"))
            self.assertEqual("-" if places is None else " ".join(map(str, places)), desk.do(f"cut one {word}"))
            self.assertEqual("-" if words is None else " ".join(words), desk.do(f"chain one {word}"))
            self.assertEqual(" ".join(base(lot).words()) or "-", desk.do("base one"))
            self.assertEqual("-" if is_settled(lot, word) else " ".join(further(lot, word)),
                             desk.do(f"further one {word}"))
            self.assertEqual("yes" if covers(lot, other) else "no", desk.do("covers one other"))
            self.assertEqual("yes" if covers(other, lot) else "no", desk.do("covers other one"))
            desk.do_all("undo", "undo")
        self.assertEqual(0, len(desk))

    def test_names(self):
        desk = Desk()
        desk.do_all("lot b", "lot ab", "lot zz", "lot abcdefgh a")
        # As Python compares strings, not shorter ones first.
        self.assertEqual(["ab", "abcdefgh", "b", "zz"], desk.names())
        for name in ("b", "ab", "zz", "abcdefgh"):
            self.is_bool(True, name in desk)
        for value in STRANGE + ("a", "abcdefg", "B", ["b"], ("b",), b"b", ANY, Lot(), 0, 1, {"b": 1}):
            self.is_bool(False, value in desk, value)
            self.fails(UnknownName, {"value": value}, lambda: desk[value])
        self.fails(UnknownName, {}, lambda: Desk()["b"])
        self.tells_anew(desk.names)
        self.tells_anew(desk.log)
        self.assertRaises(TypeError, iter, desk)

    def test_values_that_are_no_commands(self):
        desk = Desk()
        desk.do_all("lot some ab", "lot other")
        ahead = state(desk)
        for value in WRONG_COMMANDS + STRANGE + (["undo"], ("undo",), b"undo", ANY, {"undo": 1}, 0, 1, desk):
            self.fails(InvalidCommand, {"value": value}, desk.do, value)
            self.fails(InvalidCommand, {"value": value}, Desk().do, value)
            self.fails(CommandFailed, {"position": 0}, desk.do_all, value)
            self.assertEqual(ahead, state(desk))

    def test_the_limits_of_words(self):
        desk = Desk()
        self.assertEqual("done", desk.do(TEN))
        self.assertEqual(10, len(desk["full"]))
        self.assertEqual("done", desk.do("lot abcdefgh " + "a" * 12))
        self.assertEqual("2", desk.do("keep abcdefgh " + "b" * 12))
        self.assertEqual("no", desk.do("ask abcdefgh " + "ab" * 12))
        self.assertEqual("-", desk.do("plan abcdefgh " + "ab" * 12))

    def test_errors(self):
        desk = Desk()
        desk.do_all("lot some ab b", TEN)
        ahead = state(desk)
        for command, error, told in (
                ("lot some", TakenName, "some"), ("lot some a b", TakenName, "some"), ("keep some b", InvalidWord, "b"),
                ("leave some a", UnknownWord, "a"), ("keep none a", UnknownName, "none"),
                ("leave none a", UnknownName, "none"), ("drop none", UnknownName, "none"),
                ("ask none a", UnknownName, "none"), ("plan none a", UnknownName, "none"),
                ("cut none a", UnknownName, "none"), ("chain none a", UnknownName, "none"),
                ("base none", UnknownName, "none"), ("further none a", UnknownName, "none"),
                ("covers none other", UnknownName, "none"), ("covers some other", UnknownName, "other"),
                ("covers other some", UnknownName, "other"), ("keep full a", InvalidWord, "a")):
            with self.assertRaises(error) as held:
                desk.do(command)
            self.assertIs(error, type(held.exception))
            self.assertEqual(told, held.exception.value)
            self.assertEqual(ahead, state(desk))
        self.fails(TooMany, {"what": "words", "limit": 10}, desk.do, "keep full k")
        self.fails(NothingToUndo, {}, Desk().do, "undo")
        self.assertEqual(ahead, state(desk))

    def test_log_and_undo(self):
        desk = Desk()
        commands = ["lot some ab", "keep some b", "lot other a", "leave some ab", "drop other", "drop some",
                    "lot some zz"]
        states = [state(desk)]
        for command in commands:
            desk.do(command)
            states.append(state(desk))
        self.assertEqual(commands, desk.log())
        for number in range(len(commands))[::-1]:
            self.assertEqual("done", desk.do("undo"))
            self.assertEqual(states[number], state(desk))
            self.assertEqual(commands[:number], desk.log())
        self.fails(NothingToUndo, {}, desk.do, "undo")
        # What was taken back is not taken back once more; what is only asked cannot be.
        desk.do_all("lot a", "ask a b", "undo", "lot b", "base b", "covers b b")
        self.assertEqual(["lot b"], desk.log())
        desk.do("undo")
        self.assertEqual([[], []], [desk.names(), desk.log()])
        self.fails(NothingToUndo, {}, desk.do, "undo")

    def test_commands_that_fail_cannot_be_taken_back(self):
        desk = Desk()
        desk.do("lot some ab")
        for command in ("lot some", "keep some ab", "leave some b", "drop none", "lot"):
            self.assertRaises(errors.WalkError if command in ("keep some ab", "lot") else Exception, desk.do, command)
        self.assertEqual(["lot some ab"], desk.log())
        desk.do("undo")
        self.fails(NothingToUndo, {}, desk.do, "undo")


class DoAllTest(Case):
    def test_ordinary(self):
        desk = Desk()
        self.assertEqual([], desk.do_all())
        self.assertEqual(["done", "2", "yes"], desk.do_all("lot a b", "keep a c", "ask a bc"))
        self.assertEqual(["1", "done", "1", "0"], desk.do_all("leave a b", "undo", "leave a b", "leave a c"))
        self.tells_anew(lambda: desk.do_all("ask a b", "base a"))

    def test_each_can_be_taken_back(self):
        desk = Desk()
        desk.do_all("lot a b", "keep a c", "lot b")
        self.assertEqual(["done", "done"], desk.do_all("undo", "undo"))
        self.assertEqual([["lot a b"], Lot(["b"])], [desk.log(), desk["a"]])

    def test_one_that_fails_in_the_midst(self):
        desk = Desk()
        desk.do_all("lot some ab", "keep some b")
        ahead = state(desk)
        for commands, position, error in (
                (("lot other", "keep other a", "keep other a", "lot"), 2, InvalidWord),
                (("drop some", "ask some a"), 1, UnknownName), (("lot some",), 0, TakenName),
                (("undo", "undo", "undo", "lot a"), 2, NothingToUndo),
                (("leave some ab", "leave some ab"), 1, UnknownWord),
                (("lot a", "lot b", None), 2, InvalidCommand), ((TEN, "keep full k"), 1, TooMany),
                (("undo", "keep some c", "Undo"), 2, InvalidCommand)):
            with self.assertRaises(CommandFailed) as held:
                desk.do_all(*commands)
            self.assertIs(CommandFailed, type(held.exception))
            self.assertEqual(position, held.exception.position)
            self.assertIs(error, type(held.exception.__cause__))
            self.assertEqual(ahead, state(desk))
        # What can be taken back is as it was, too.
        desk.do("undo")
        self.assertEqual([["lot some ab"], Lot(["ab"])], [desk.log(), desk["some"]])
        desk.do("undo")
        self.fails(NothingToUndo, {}, desk.do, "undo")


class TrialTest(Case):
    def test_ordinary(self):
        desk = Desk()
        desk.do_all("lot some ab", "keep some b")
        ahead = state(desk)
        with Trial(desk) as held:
            self.assertIs(desk, held)
            held.do_all("drop some", "lot a", "lot b c")
            self.assertEqual(["a", "b"], desk.names())
        self.assertEqual(ahead, state(desk))
        with Trial(desk=desk) as held:
            held.do_all("undo", "undo")
            self.assertEqual([[], []], [desk.names(), desk.log()])
        self.assertEqual(ahead, state(desk))
        # What can be taken back is as it was, too.
        desk.do("undo")
        self.assertEqual(Lot(["ab"]), desk["some"])

    def test_with_an_error_that_leaves_the_block(self):
        desk = Desk()
        desk.do("lot some ab")
        ahead = state(desk)
        for error in (Mine("x"), ValueError("y"), KeyError("z"), CommandFailed(3), StopIteration()):
            with self.assertRaises(type(error)) as told:
                with Trial(desk) as held:
                    held.do("keep some b")
                    raise error
            self.assertIs(error, told.exception)
            self.assertEqual(ahead, state(desk))
        with self.assertRaises(UnknownName):
            with Trial(desk):
                desk.do("lot a")
                desk.do("ask b a")
        self.assertEqual(ahead, state(desk))

    def test_within_one_another(self):
        desk = Desk()
        desk.do("lot a")
        with Trial(desk) as held:
            held.do("lot b")
            inner = state(desk)
            with Trial(held) as again:
                self.assertIs(desk, again)
                again.do_all("lot c", "drop a", "undo", "undo", "undo")
                self.assertEqual(["a"], desk.names())
                with Trial(desk):
                    desk.do("undo")
                    self.assertEqual([], desk.names())
                self.assertEqual(["a"], desk.names())
            self.assertEqual(inner, state(desk))
            held.do("lot d")
            self.assertEqual(["a", "b", "d"], desk.names())
        self.assertEqual((["a"], [Lot()], ["lot a"], 1), state(desk))

    def test_what_it_is_ahead_of_the_block(self):
        # Not what it was when the Trial was made.
        desk = Desk()
        trial = Trial(desk)
        desk.do("lot a")
        with trial:
            desk.do("lot b")
        self.assertEqual(["a"], desk.names())
        desk.do("lot c")
        with trial as held:
            held.do_all("undo", "undo")
        self.assertEqual(["a", "c"], desk.names())
        self.assertEqual(["lot a", "lot c"], desk.log())

    def test_return_from_the_block(self):
        desk = Desk()

        def names():
            with Trial(desk) as held:
                held.do("lot a")
                return held.names()

        self.assertEqual([["a"], []], [names(), desk.names()])

    def test_tried(self):
        desk = Desk()
        desk.do("lot a b")
        ahead = state(desk)
        value = [1, {"a": []}]
        self.assertIs(value, tried(desk, lambda held: value))
        self.assertIs(desk, tried(desk=desk, action=lambda held: held))
        self.assertEqual(["done", ["a", "c"]], tried(desk, lambda held: [held.do("lot c"), held.names()]))
        self.assertIs(None, tried(desk, lambda held: None))
        self.assertEqual(ahead, state(desk))
        error = Mine()
        with self.assertRaises(Mine) as told:
            tried(desk, lambda held: self.changes_and_fails(held, error))
        self.assertIs(error, told.exception)
        self.assertEqual(ahead, state(desk))
        self.assertEqual("0", tried(desk, lambda held: tried(held, lambda again: again.do("leave a b"))))
        self.assertEqual(ahead, state(desk))

    def changes_and_fails(self, desk, error):
        desk.do_all("lot c", "drop a")
        raise error


class TwoDesksTest(Case):
    def test_beside_each_other(self):
        one, other = Desk(), Desk()
        one.do("lot a b")
        self.assertEqual([["a"], []], [one.names(), other.names()])
        other.do_all("lot a c", "lot b")
        self.assertEqual([Lot(["b"]), Lot(["c"])], [one["a"], other["a"]])
        with Trial(one):
            one.do("drop a")
            other.do("keep a d")
        self.assertEqual([Lot(["b"]), Lot(["c", "d"])], [one["a"], other["a"]])
        one.do("undo")
        self.assertEqual([[], ["a", "b"]], [one.names(), other.names()])
        self.fails(NothingToUndo, {}, one.do, "undo")

    def test_lots_do_not_change(self):
        desk = Desk()
        desk.do("lot a b")
        lot = desk["a"]
        desk.do("keep a c")
        self.assertEqual([Lot(["b"]), Lot(["b", "c"])], [lot, desk["a"]])

    def test_many_commands(self):
        desk = Desk()
        for _ in range(80):
            desk.do_all("lot some a", "keep some b")
            self.assertEqual("done", desk.do("drop some"))
        self.assertEqual(240, len(desk.log()))
        for _ in range(100):
            desk.do("undo")
        self.assertEqual(140, len(desk.log()))


if __name__ == "__main__":
    unittest.main()
