"""The desk: promise 32."""

import random
import unittest

from joinedasks.beats import Net
from joinedasks.deeds import then
from joinedasks.deedtexts import deed_text
from joinedasks.desk import Desk
from joinedasks.errors import (
    AskError, NoAsk, NoBoard, NoHand, NoNet, NoNumber, NoRow, NoSide, NoText, TooMany,
)
from joinedasks.rounds import one_round
from joinedasks.settings import straight
from roundsamples import EVERY_DEED
from samples import BIG, ODD_THINGS, ODD_TUPLES

NO_FIGURES = [
    "x", "one", "00", "01", "007", "+0", "+1", "-0", "-00", "-01", "--1", "-", "+", "1-", "1+", "1.", "1.0", ".5", "1e3", "0x1",
    "1_0", "1,", "1;", ";", "(1)", "None", "True", "look", "\u00b2", "\u0661", "\uff11", "\u2460", "\u0967", "\u22121",
]
NO_DEED_TEXTS = [
    "x", "loo", "Look", "look look", "look;", "look; look", "add", "add x", "add 0", "add +1", "add 01", "add -0", "add 1;",
    "add 1 add 2", "low", "low 1 add 1", "high 1 low 0", "low 2 high 1", "low 1 high 1", "set", "set 1 2", "set 1 add 1",
    "add 1 set 1", "none", "0", "0 look", "add 1 look", "set -0", "(0, None, None)", "add \u0661", ";",
]
# Each row with a # in the place of a number.
WITH_NUMBERS = [
    "net # 1 0 0", "net 0 # 0 0", "net 0 1 # 0", "put # 0 look", "put 0 # look", "put # 0 x", "beat # 0", "beat 0 #",
    "beat 0 0 # 0", "beat 0 0 0 #", "run #", "answer #", "wait # 0", "wait 0 #", "round # 0 look", "round 0 # look",
    "round # 0 x", "round 0 0 look; # 0 look", "round 0 0 look; 0 # look", "round 0 0 x; 0 # look",
]
TOO_FEW_OR_MANY = [
    "net", "net 0", "net 0 1", "net 0 1 0", "put", "put 0", "put 0 0", "beat 0", "beat 0 0 0", "beat 0 0 0 0 0", "run", "run 1 1",
    "run 1 2 3", "board 0", "board board", "log 0", "log log", "todo 0", "todo x", "answer", "answer 0 0", "wait", "wait 0",
    "wait 0 0 0", "then", "round", "round 0", "round 0 0", "round 0 0 look; 0", "round 0 0 look; 0 0", "round 0 0; 0 0 look",
    "round 0; 0 0 look", "round 0 0 look; 0; 0 0 look", "round ;", "round 0 ;",
]


def said(desk, *rows):
    """The answers to the rows."""
    return [desk.say(row) for row in rows]


def seen(desk):
    """All that can be asked of a desk; what it has not is refused."""
    told = said(desk, "board", "log", "todo")
    rows = [f"answer {number}" for number in range(41)]
    rows += [f"wait {level} {line}" for level in range(5) for line in range(16)]
    for row in rows:
        try:
            told.append(desk.say(row))
        except AskError as refusal:
            told.append(refusal.__class__)
    return told


class Begin(unittest.TestCase):
    def test_at_first(self):
        desk = Desk()
        self.assertEqual(said(desk, "board", "log", "todo", "wait 0 0", "beat"), ["0", "none", "0", "none", "none"])
        for row, error in (("answer 0", NoNumber), ("wait 1 0", NoSide), ("wait 0 1", NoSide), ("beat 1 0", NoSide)):
            with self.assertRaises(error):
                desk.say(row)
        with self.assertRaises(NoHand):
            desk.say("put 1 0 look")
        with self.assertRaises(NoAsk):
            desk.say("put 0 1 look")
        self.assertEqual(said(desk, "put 0 0 add 3", "put 0 0 look", "wait 0 0"), ["0", "1", "0 add 3; 0 look"])
        self.assertEqual(said(desk, "beat 0 0", "beat", "beat", "beat", "board"), ["none", "0 0", "1 3", "none", "3"])

    def test_each_row(self):
        desk = Desk()
        for row, answer in (
            ("net 1 1 1 5 -3 0", "ok"),
            ("board", "5 -3 0"),
            ("log", "none"),
            ("todo", "0"),
            ("put 0 0 add 1", "0"),
            ("put 1 0 add 10 high 12", "1"),
            ("put 1 1 set 8", "2"),
            ("todo", "3"),
            ("wait 0 0", "0 add 1"),
            ("wait 0 1", "0 add 10 high 12; 1 set 8"),
            ("wait 1 0", "none"),
            ("answer 0", "none"),
            ("beat", "none"),
            ("wait 1 0", "0 add 11 high 13"),
            ("wait 0 0", "none"),
            ("beat 0 0", "none"),
            ("wait 1 1", "1 set 8"),
            ("wait 1 0", "0 add 11 high 13"),
            ("beat 1 0 0 0", "none"),
            ("log", "2"),
            ("board", "5 8 0"),
            ("answer 2", "none"),
            ("beat", "2 -3"),
            ("answer 2", "-3"),
            ("log", "2 1 0"),
            ("board", "13 8 0"),
            ("todo", "2"),
            ("beat 0 1 1 0 0 1", "0 12; 1 5"),
            ("answer 0", "12"),
            ("answer 1", "5"),
            ("todo", "0"),
            ("run 1", "none"),
            ("then add 1", "add 1"),
            ("then add 1; add 2; high 5; low 9", "set 9"),
            ("round 0 0 add 1; 1 0 add 10", "13 14"),
            ("board", "13 8 0"),
            ("todo", "0"),
        ):
            self.assertEqual(desk.say(row), answer, row)

    def test_two_beside_one_another(self):
        one, other = Desk(), Desk()
        ahead = seen(other)
        said(one, "net 2 1 1 7 8", "put 3 1 add 1", "run 9")
        self.assertEqual(seen(other), ahead)
        said(other, "put 0 0 add 4", "beat")
        self.assertEqual((one.say("board"), other.say("board")), ("7 9", "4"))
        self.assertEqual((one.say("log"), one.say("answer 0"), other.say("answer 0")), ("0", "8", "0"))

    def test_all_is_told_in_texts(self):
        desk = Desk()
        for row in ("net 0 1 0 0", "put 0 0 look", "beat", "run 1", "board", "log", "todo", "answer 0", "wait 0 0", "then look"):
            self.assertIsInstance(desk.say(row), str)


class Nets(unittest.TestCase):
    def test_boards(self):
        desk = Desk()
        for many in range(1, 17):
            values = " ".join(str(value - 8) for value in range(many))
            self.assertEqual(said(desk, f"net 4 6 6 {values}", "board"), ["ok", values])

    def test_values_below_nought_and_great_ones(self):
        desk = Desk()
        for values in ("-1", "0 -1", f"{BIG} -{BIG}", "-10 10", "-5 -5 -5"):
            self.assertEqual(said(desk, "net 0 1 0 " + values, "board"), ["ok", values])

    def test_a_new_one(self):
        desk = Desk()
        said(desk, "net 1 1 1 5", "put 0 0 add 1", "put 1 0 add 1", "run 3", "put 0 0 look")
        self.assertEqual(said(desk, "log", "todo"), ["1 0", "1"])
        self.assertEqual(said(desk, "net 2 2 0 1 2", "log", "todo", "board", "wait 0 0"), ["ok", "none", "0", "1 2", "none"])
        with self.assertRaises(NoNumber):
            desk.say("answer 0")
        self.assertEqual(said(desk, "put 3 1 add 4", "run 5", "board"), ["0", "0 2", "1 6"])

    def test_sizes(self):
        desk = Desk()
        for k in range(5):
            for room in range(1, 7):
                for kept in range(7):
                    self.assertEqual(desk.say(f"net {k} {room} {kept} 0"), "ok")
        # Room for one, and for two.
        for room, waiting in ((1, "2 look"), (2, "2 look; 0 add 1")):
            said(desk, f"net 1 {room} 0 0 0 0", "put 0 0 add 1", "put 1 2 look", "beat")
            self.assertEqual(desk.say("wait 1 0"), waiting)
        # None kept, and one.
        for kept, waiting in ((0, "0 add 2; 0 add 1"), (1, "0 add 3")):
            said(desk, f"net 1 2 {kept} 0", "put 0 0 add 1", "put 1 0 add 2", "beat")
            self.assertEqual(desk.say("wait 1 0"), waiting)

    def test_refusals(self):
        desk = Desk()
        said(desk, "net 1 1 1 5", "put 0 0 add 1", "beat")
        ahead = seen(desk)
        seventeen = " 0" * 17
        for row, error in (
            ("net 5 1 0 0", NoNet), ("net 99 1 0 0", NoNet), ("net 5 0 0 0", NoNet), ("net 5 1 9" + seventeen, NoNet),
            ("net 0 0 0 0", NoNumber), ("net 0 7 0 0", NoNumber), ("net 0 1 7 0", NoNumber), (f"net 0 {BIG} 0 0", NoNumber),
            ("net 0 0 0" + seventeen, NoNumber), ("net 0 1 0" + seventeen, NoBoard), ("net 4 6 6" + " -1" * 40, NoBoard),
            ("net 5 1 0 01", NoRow), ("net 0 1 0 0 +1", NoRow), ("net 0 1 0" + seventeen + " x", NoRow),
        ):
            with self.assertRaises(error):
                desk.say(row)
            self.assertEqual(seen(desk), ahead)

    def test_values_that_are_none(self):
        desk = Desk()
        ahead = seen(desk)
        for word in NO_FIGURES:
            for row in (f"net 0 1 0 {word}", f"net 0 1 0 1 {word}", f"net 0 1 0 {word} 1", f"net 9 9 9 {word}"):
                with self.assertRaises(NoRow):
                    desk.say(row)
        self.assertEqual(seen(desk), ahead)


class Beats(unittest.TestCase):
    def test_switches_and_sides_lost(self):
        desk = Desk()
        said(desk, "net 2 1 1 0", "put 0 0 add 1", "put 1 0 add 2")
        self.assertEqual(said(desk, "beat 1 0", "wait 0 0", "wait 0 1", "wait 1 1"), ["none", "0 add 1", "none", "0 add 2"])
        self.assertEqual(said(desk, "beat 2 0", "wait 1 0", "wait 1 1", "wait 2 0"), ["none", "0 add 1", "0 add 2", "none"])
        self.assertEqual(said(desk, "beat", "wait 2 0"), ["none", "0 add 3"])
        self.assertEqual(said(desk, "beat 0 0 0 0 2 1", "log"), ["none", "none"])
        self.assertEqual(said(desk, "beat 0 1 0 2 0 3", "log"), ["none", "1 0"])
        self.assertEqual(said(desk, "beat 1 1 1 0 2 0 2 1 0 0", "beat"), ["none", "0 2; 1 0"])

    def test_what_cannot_be_lost(self):
        for k in range(5):
            desk = Desk()
            said(desk, f"net {k} 1 1 0", "put 0 0 add 1")
            ahead = seen(desk)
            for lost in (f"0 {2 ** k}", f"{k + 1} 0", f"1 {2 ** k // 2}", f"0 0 0 {2 ** k}", f"{BIG} 0", f"0 {BIG}"):
                with self.assertRaises(NoSide):
                    desk.say("beat " + lost)
            self.assertEqual(seen(desk), ahead)

    def test_run(self):
        desk = Desk()
        self.assertEqual(said(desk, "net 0 1 0 5", *["put 0 0 add 1"] * 12)[-1], "11")
        self.assertEqual(desk.say("run 1"), "0 5")
        self.assertEqual(desk.say("run 3"), "1 6; 2 7; 3 8")
        self.assertEqual(desk.say("run 300"), "; ".join(f"{at} {at + 5}" for at in range(4, 12)))
        self.assertEqual(desk.say("run 300"), "none")

    def test_run_is_so_many_beats(self):
        for many in (1, 2, 7, 8, 9, 299, 300):
            one, other = Desk(), Desk()
            for desk in (one, other):
                said(desk, "net 4 1 0 0 0 0", *[f"put {at % 16} {at % 3} add {2 ** at}" for at in range(40)])
            told = [other.say("beat") for beat in range(many)]
            self.assertEqual(one.say(f"run {many}"), "; ".join([text for text in told if text != "none"]) or "none")
            self.assertEqual(seen(one), seen(other))
            # The number of beats tells which in-line goes first.
            self.assertEqual(said(one, "beat", "beat"), said(other, "beat", "beat"))
            self.assertEqual(seen(one), seen(other))

    def test_run_of_other_numbers(self):
        desk = Desk()
        desk.say("put 0 0 add 1")
        ahead = seen(desk)
        for row in ("run 0", "run 301", "run 302", f"run {BIG}", "run -1", "run 00", "run 0300", "run 1 1"):
            with self.assertRaises(NoRow):
                desk.say(row)
        self.assertEqual(seen(desk), ahead)

    def test_answers_ahead_of_and_behind(self):
        desk = Desk()
        said(desk, "net 1 1 1 -7", "put 1 0 set 0")
        for beat in range(2):
            self.assertEqual(said(desk, "answer 0", "beat"), ["none", "none"])
        self.assertEqual(said(desk, "answer 0", "beat", "answer 0", "run 3", "answer 0"), ["none", "0 -7", "-7", "none", "-7"])
        # An answer of 0 is one, too.
        self.assertEqual(said(desk, "put 0 0 look", "run 3", "answer 1"), ["1", "1 0", "0"])
        for number in (2, 3, 40, BIG):
            with self.assertRaises(NoNumber):
                desk.say(f"answer {number}")

    def test_wait_of_each_level(self):
        desk = Desk()
        said(desk, "net 3 1 1 0 0 0 0 0 0", "put 6 5 add 1 low -2 high 3")
        for level, line in enumerate((6, 6, 4, 5)):
            for other in range(4):
                for place in range(8):
                    text = "5 add 1 low -2 high 3" if (other, place) == (level, line) else "none"
                    self.assertEqual(desk.say(f"wait {other} {place}"), text)
            desk.say("beat")
        for row in ("wait 4 0", "wait 0 8", "wait 3 8", f"wait 0 {BIG}", f"wait {BIG} 0"):
            with self.assertRaises(NoSide):
                desk.say(row)

    def test_put_refusals(self):
        desk = Desk()
        said(desk, "net 1 1 1 0 0")
        for fill in (1, 39):
            said(desk, *["put 0 1 add 1"] * fill)
            ahead = seen(desk)
            for row, error in (
                ("put 2 0 look", NoHand), ("put 15 1 look", NoHand), ("put 16 0 look", NoAsk), ("put 0 2 look", NoAsk),
                (f"put {BIG} 0 look", NoAsk), (f"put 0 {BIG} look", NoAsk), ("put 2 2 look", NoAsk), ("put 2 0 x", NoText),
                ("put 16 0 x", NoText), ("put 0 9 add 0", NoText), ("put 0 09 x", NoRow), ("put 2 -1 look", NoRow),
            ):
                with self.assertRaises(error):
                    desk.say(row)
                self.assertEqual(seen(desk), ahead)
        with self.assertRaises(TooMany):
            desk.say("put 1 1 look")
        with self.assertRaises(NoText):
            desk.say("put 1 1 lo")

    def test_against_a_net(self):
        chance = random.Random(32)
        for turn in range(40):
            k, boxes = chance.randrange(5), chance.choice((1, 2, 5, 16))
            room, kept = chance.randint(1, 3), chance.randint(0, 3)
            board = tuple(chance.randint(-9, 9) for box in range(boxes))
            desk, net = Desk(), Net(k, board, room, kept)
            self.assertEqual(desk.say(f"net {k} {room} {kept} " + " ".join(map(str, board))), "ok")
            everything = [(0, side) for side in range(2 ** k)]
            everything += [(stage, number) for stage in range(1, k + 1) for number in range(2 ** (k - 1))]
            for step in range(30):
                hand, box, deed = chance.randrange(2 ** k), chance.randrange(boxes), chance.choice(EVERY_DEED)
                self.assertEqual(desk.say(f"put {hand} {box} {deed_text(deed)}"), str(net.put((hand, box, deed))))
                lost = tuple(chance.choices(everything, k=chance.choice((0, 1, 4))))
                words = "".join(f" {stage} {number}" for stage, number in lost)
                told = "; ".join(f"{number} {answer}" for number, answer in net.beat(lost))
                self.assertEqual(desk.say("beat" + words), told or "none")
                self.assertEqual(desk.say("board"), " ".join(map(str, net.board())))
                self.assertEqual(desk.say("log"), " ".join(map(str, net.log())) or "none")
                self.assertEqual(desk.say("todo"), str(net.todo()))
                level, line = chance.randint(0, k), chance.randrange(2 ** k)
                waits = [f"{row[0]} {deed_text(row[1])}" for row in net.waiting(level, line)]
                self.assertEqual(desk.say(f"wait {level} {line}"), "; ".join(waits) or "none")
                number = chance.randint(0, step)
                answer = net.answer(number)
                self.assertEqual(desk.say(f"answer {number}"), "none" if answer is None else str(answer))


class ThenAndRound(unittest.TestCase):
    def test_then(self):
        desk = Desk()
        ahead = seen(desk)
        for deed in EVERY_DEED:
            self.assertEqual(desk.say("then " + deed_text(deed)), deed_text(deed))
        for at, one in enumerate(EVERY_DEED):
            other = EVERY_DEED[at * 7 % len(EVERY_DEED)]
            third = EVERY_DEED[at * 11 % len(EVERY_DEED)]
            told = desk.say(f"then {deed_text(one)}; {deed_text(other)}; {deed_text(third)}")
            self.assertEqual(told, deed_text(then(then(one, other), third)))
        self.assertEqual(desk.say("then " + "; ".join(["add 1"] * 40)), "add 40")
        self.assertEqual(desk.say("then add 1; add -1"), "look")
        self.assertEqual(seen(desk), ahead)

    def test_then_of_what_is_no_deed(self):
        desk = Desk()
        for text in [text for text in NO_DEED_TEXTS if "; " not in text and text != ";"]:
            for row in (f"then {text}", f"then look; {text}", f"then {text}; look", f"then look; {text}; look"):
                with self.assertRaises(NoText, msg=row):
                    desk.say(row)

    def test_round(self):
        chance = random.Random(33)
        for k in range(5):
            desk = Desk()
            board = (4, -5, BIG)
            desk.say(f"net {k} 1 0 " + " ".join(map(str, board)))
            for turn in range(25):
                hands = chance.sample(range(2 ** k), chance.randint(1, 2 ** k))
                asks = tuple((hand, chance.randrange(3), chance.choice(EVERY_DEED)) for hand in hands)
                row = "; ".join(f"{hand} {box} {deed_text(deed)}" for hand, box, deed in asks)
                answers, behind = one_round(k, board, asks, straight(k))
                self.assertEqual(desk.say("round " + row), " ".join(map(str, answers)))
            self.assertEqual(said(desk, "board", "log", "todo"), [f"4 -5 {BIG}", "none", "0"])

    def test_round_as_written(self):
        desk = Desk()
        desk.say("net 2 1 0 0 0")
        rows = "; ".join(f"{hand} 1 add {10 ** hand}" for hand in range(4))
        # All firsts are 0: 0, 2, 1, 3.
        self.assertEqual(desk.say("round " + rows), "0 101 1 111")

    def test_round_at_the_board_as_it_is(self):
        desk = Desk()
        said(desk, "net 1 1 0 3 9", "put 0 0 add 4")
        self.assertEqual(said(desk, "round 1 0 look; 0 0 set 1"), ["1 3"])
        desk.say("run 2")
        # Done, but not answered yet.
        ahead = seen(desk)
        self.assertEqual(said(desk, "todo", "round 1 0 look; 0 1 add 1"), ["1", "7 9"])
        self.assertEqual(desk.say("round 1 0 look; 0 1 add 1"), "7 9")
        self.assertEqual(seen(desk), ahead)
        self.assertEqual(said(desk, "beat", "board"), ["0 3", "7 9"])

    def test_round_refusals(self):
        desk = Desk()
        said(desk, "net 1 1 1 0 0", "put 0 0 add 1", "beat")
        ahead = seen(desk)
        for row, error in (
            ("round 2 0 look", NoHand), ("round 0 0 look; 0 1 look", NoHand), ("round 0 0 look; 15 0 look", NoHand),
            ("round 16 0 look", NoAsk), ("round 0 2 look", NoAsk), ("round 0 0 look; 0 2 look", NoAsk), ("round 2 2 look", NoAsk),
            ("round 0 0 x", NoText), ("round 2 0 x", NoText), ("round 0 2 look; 0 0 x", NoText), ("round 0 0 x; 16 0 look", NoText),
            ("round 0 0 look;1 0 look", NoText), ("round 0 0 look;", NoText), ("round 0 0 look;; 1 0 look", NoText),
            ("round 0 0 x; 1 0", NoRow), ("round 0 0 x; -1 0 look", NoRow), ("round 0 0 look; 1 0 x; 0", NoRow),
            ("round 0 2 look; x 0 look", NoRow),
        ):
            with self.assertRaises(error, msg=row):
                desk.say(row)
            self.assertEqual(seen(desk), ahead)


class Refusals(unittest.TestCase):
    def filled(self):
        desk = Desk()
        said(desk, "net 2 1 1 5 -6 7", "put 0 0 add 1", "put 1 0 add 2", "put 3 2 set 4", "run 3", "put 2 1 look", "beat")
        return desk

    def refused(self, error, rows):
        """All of these, at a desk that stays as it was."""
        desk = self.filled()
        ahead = seen(desk)
        for row in rows:
            with self.assertRaises(error, msg=row):
                desk.say(row)
        self.assertEqual(seen(desk), ahead)
        self.assertEqual(said(desk, "run 9", "board"), said(self.filled(), "run 9", "board"))

    def test_no_texts(self):
        self.refused(NoRow, ODD_THINGS + ODD_TUPLES + [0, 1, BIG, b"board", ["board"], ("board",), ["beat"], {"log": 1}])

    def test_no_words(self):
        self.refused(NoRow, ["", " ", "  ", "   "])

    def test_other_words(self):
        self.refused(NoRow, [
            "x", "Board", "BOARD", "boards", "boar", "look", "none", "ok", "board;", "board.", "0", "1 2", "look 1", "add 1",
            "say board", "joinings 1 0", "beats", "nets 0 1 0 0", "set 1", "put;", "then;", "x x", "__init__",
        ])

    def test_blanks(self):
        right = [
            "net 0 1 0 0", "put 0 0 look", "put 0 0 add 1", "beat", "beat 0 0", "run 1", "board", "log", "todo", "answer 0",
            "wait 0 0", "then look", "then look; add 1", "round 0 0 look", "round 0 0 look; 1 0 add 1",
        ]
        rows = ["then look; ", "then x; ", "round 0 0 look; ", "round 0 0 look; 1 0 look; "]
        for row in right:
            rows += [" " + row, row + " ", "  " + row, row + "  ", " " + row + " "]
            for at, sign in enumerate(row):
                if sign == " ":
                    rows += [row[:at] + " " + row[at:], row[:at] + "  " + row[at:]]
        self.refused(NoRow, rows)

    def test_words_for_numbers(self):
        words = NO_FIGURES + ["-1", f"-{BIG}"]
        rows = [row.replace("#", word) for row in WITH_NUMBERS for word in words]
        # What is answered where a blank stands right ahead of a parting is not promised.
        self.refused(NoRow, [row for row in rows if not (row.startswith("round") and " ; " in row)])

    def test_too_few_or_too_many(self):
        self.refused(NoRow, TOO_FEW_OR_MANY)

    def test_no_deeds(self):
        texts = [text for text in NO_DEED_TEXTS if "; " not in text and text != ";"]
        rows = [f"put 0 0 {text}" for text in NO_DEED_TEXTS]
        rows += [f"put 0 0 look {text}" for text in NO_DEED_TEXTS]
        rows += [f"round 0 0 {text}" for text in texts]
        rows += [f"round 0 0 look; 1 0 {text}" for text in texts]
        rows += [f"round 0 0 {text}; 1 0 look" for text in texts]
        # At the row's end it is no parting.
        rows += ["then ;", "then look;", "then look; ;", "round 0 0 ;", "round 0 0 look; 1 0 look;"]
        self.refused(NoText, rows)

    def test_no_deeds_where_the_stages_would_refuse(self):
        rows = []
        for text in ("x", "add 0", "look;"):
            rows += [f"put 4 0 {text}", f"put 16 0 {text}", f"put 0 3 {text}", f"put 99 99 {text}"]
            rows += [f"round 4 0 {text}", f"round 16 0 {text}", f"round 0 0 look; 0 0 {text}", f"round 0 9 look; 1 0 {text}"]
        self.refused(NoText, rows)

    def test_a_row_and_a_deed(self):
        rows = []
        for text in ("x", "add 0", "look;"):
            rows += [f"put -1 0 {text}", f"put 0 01 {text}", f"put x 0 {text}", f"put 0  0 {text}", f"put 0 0 {text} "]
            rows += [f"round -1 0 {text}", f"round 0 0 {text}; 1", f"round 0 0 {text}; 1 0", f"round 0 0 {text}; +1 0 look"]
            rows += [f"then {text} ", f"then  {text}", f"then look;  {text}", f"round 1 0; 0 0 {text}"]
        self.refused(NoRow, rows)

    def test_a_row_and_the_stages(self):
        self.refused(NoRow, [
            "net 9 1 0 x", "net 9 1 0", "net 5 0 01 0", "put 99 -1 look", "put 99 99", "beat 9 9 9", "beat 9 9 9 -9", "wait 9 9 9",
            "wait 9 -9", "answer 99 99", "answer -99", "round 99 99 look; 0",
        ])

    def test_as_the_stages_refuse(self):
        seventeen = " 0" * 17
        for error, rows in (
            (NoNet, ["net 5 1 0 0", "net 5 0 7" + seventeen]),
            (NoNumber, ["net 0 0 0 0", "net 0 7 0" + seventeen, "net 0 1 7 0", "answer 4", "answer 40"]),
            (NoBoard, ["net 0 1 0" + seventeen]),
            (NoAsk, ["put 16 0 look", "put 0 3 look", "put 4 3 look", "round 16 0 look", "round 4 0 look; 4 3 look"]),
            (NoHand, ["put 4 0 look", "round 4 0 look", "round 0 0 look; 0 1 look"]),
            (NoSide, ["beat 0 4", "beat 3 0", "beat 1 2", "beat 0 0 1 2", "wait 3 0", "wait 0 4"]),
        ):
            self.refused(error, rows)

    def test_forty_put(self):
        desk = Desk()
        said(desk, "net 1 1 1 0", *["put 0 0 add 1"] * 40)
        ahead = seen(desk)
        for row, error in (("put 0 0 look", TooMany), ("put 2 0 look", NoHand), ("put 0 1 look", NoAsk), ("put 0 0 x", NoText)):
            with self.assertRaises(error):
                desk.say(row)
        self.assertEqual(seen(desk), ahead)
        said(desk, "run 200")
        self.assertEqual(said(desk, "todo", "board"), ["0", "40"])
        with self.assertRaises(TooMany):
            desk.say("put 0 0 look")
        # A new net takes forty again.
        self.assertEqual(said(desk, "net 0 1 0 0", "put 0 0 look"), ["ok", "0"])


class Alike(unittest.TestCase):
    def test_asked_again(self):
        rows = ["net 3 2 1 1 2 3"] + [f"put {at * 5 % 8} {at % 3} add {at} high 9" for at in range(1, 12)] + ["beat 1 0 0 1"] * 9
        rows += ["run 40", "board", "log", "todo", "answer 3", "wait 0 0", "round 1 0 look; 3 0 add 4", "then look; set 4"]
        self.assertEqual(said(Desk(), *rows), said(Desk(), *rows))


if __name__ == "__main__":
    unittest.main()
