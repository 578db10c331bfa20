"""The whole: what promise 4 says of a run of a net, looked at through orders that fit, and by the desk's rows."""

import random
import unittest

from joinedasks.beats import Net
from joinedasks.boards import played
from joinedasks.deedtexts import deed_text
from joinedasks.desk import Desk
from joinedasks.fitting import an_order, are_calls, fits
from joinedasks.net import first_shared
from joinedasks.rounds import one_round, told_order
from joinedasks.serial import is_serial
from joinedasks.settings import led, settings_for, straight
from joinedasks.together import gone_together
from roundsamples import EVERY_DEED


class Run:
    """A run by chance of a net and of a desk beside it, until all is answered."""

    def __init__(self, chance, deeds):
        self.chance = chance
        self.k = chance.randrange(5)
        self.board = tuple(chance.randint(-9, 9) for box in range(chance.choice((1, 2, 5, 16))))
        self.room, self.kept = chance.choice((1, 1, 2, 6)), chance.choice((0, 1, 1, 2, 6))
        self.net, self.desk = Net(self.k, self.board, self.room, self.kept), Desk()
        self.desk.say(f"net {self.k} {self.room} {self.kept} " + " ".join(map(str, self.board)))
        self.asks, self.put_at, self.told_at, self.answers = [], {}, {}, {}
        self.texts = []
        self.joined = 0
        self.go(chance.sample([box for box in range(len(self.board)) for turn in range(8)][:40], k=min(40, 8 * len(self.board))), deeds)

    def go(self, boxes, deeds):
        everything = [(0, side) for side in range(2 ** self.k)]
        everything += [(stage, number) for stage in range(1, self.k + 1) for number in range(2 ** self.k // 2)]
        while boxes:
            for turn in range(min(self.chance.randint(0, 6), len(boxes))):
                self.put((self.chance.randrange(2 ** self.k), boxes.pop(), self.chance.choice(deeds)))
            self.beat(tuple(self.chance.choices(everything, k=self.chance.choice((0, 0, 1, 3, 8)))))
        while self.net.todo():
            self.beat(())

    def put(self, ask):
        number = self.net.put(ask)
        self.texts.append((f"put {ask[0]} {ask[1]} {deed_text(ask[2])}", str(number)))
        self.put_at[number] = self.net.beats()
        self.asks.append(ask)

    def beat(self, lost):
        told = self.net.beat(lost)
        words = "".join(f" {stage} {number}" for stage, number in lost)
        self.texts.append(("beat" + words, "; ".join(f"{number} {answer}" for number, answer in told) or "none"))
        for number, answer in told:
            assert number not in self.answers
            self.answers[number] = answer
            self.told_at[number] = self.net.beats()
        for level in range(1, self.k + 1):
            for line in range(2 ** self.k):
                rows = self.net.waiting(level, line)
                assert len(rows) <= self.room
                self.joined += sum(len(numbers) > 1 for box, deed, numbers in rows)

    def calls(self):
        """The asks as calls: one that was put behind the beat of another one's answer begun behind its end."""
        return tuple(
            ask + (2 * self.put_at[number] + 1, 2 * self.told_at[number], self.answers[number])
            for number, ask in enumerate(self.asks)
        )


def some_runs(number, many, deeds=EVERY_DEED):
    chance = random.Random(number)
    return [Run(chance, deeds) for turn in range(many)]


class InTime(unittest.TestCase):
    def test_as_if_one_after_another(self):
        joined = 0
        for run in some_runs(4, 80):
            calls, log = run.calls(), run.net.log()
            joined += run.joined
            self.assertTrue(are_calls(run.board, calls))
            self.assertEqual(sorted(log), list(range(len(run.asks))))
            self.assertIs(fits(run.board, calls, log), True)
            self.assertEqual(played(run.board, tuple(run.asks[number] for number in log))[1], run.net.board())
        self.assertGreater(joined, 100)

    def test_a_hands_asks_to_a_box_stand_as_they_were_put(self):
        for run in some_runs(41, 40):
            for hand in range(2 ** run.k):
                for box in range(len(run.board)):
                    own = [number for number in run.net.log() if run.asks[number][:2] == (hand, box)]
                    self.assertEqual(own, sorted(own))

    def test_an_order_is_found(self):
        for run in some_runs(42, 60):
            calls = run.calls()
            order = an_order(run.board, calls)
            self.assertIsNot(order, None)
            self.assertIs(fits(run.board, calls, order), True)

    def test_orders_go_together(self):
        for run in some_runs(43, 60):
            calls = run.calls()
            boxes = range(len(run.board))
            orders = tuple(tuple(number for number in run.net.log() if calls[number][1] == box) for box in boxes)
            together = gone_together(run.board, calls, orders)
            self.assertIs(fits(run.board, calls, together), True)
            self.assertEqual(played(run.board, tuple(run.asks[number] for number in together))[1], run.net.board())

    def test_a_wrong_answer_is_seen(self):
        # Each ask adds another power of 2, so that no sum of some of them is one more than a sum of others.
        powers = [(2 ** power, None, None) for power in range(1, 41)]
        for run in some_runs(44, 30, powers):
            calls = run.calls()
            for number in range(len(calls)):
                wrong = calls[:number] + (calls[number][:5] + (calls[number][5] + 1,),) + calls[number + 1:]
                self.assertIs(an_order(run.board, wrong), None)

    def test_an_answer_ahead_of_its_time_is_seen(self):
        # A look that ended ahead of what it saw.
        calls = ((0, 0, (1, None, None), 5, 9, 0), (1, 0, (0, None, None), 1, 4, 1))
        self.assertIs(an_order((0,), calls), None)
        self.assertIs(is_serial((0,), calls, (0, 1)), True)

    def test_by_the_desks_rows(self):
        for run in some_runs(45, 40):
            for row, answer in run.texts:
                self.assertEqual(run.desk.say(row), answer, row)
            self.assertEqual(run.desk.say("log"), " ".join(map(str, run.net.log())))
            self.assertEqual(run.desk.say("board"), " ".join(map(str, run.net.board())))
            self.assertEqual(run.desk.say("todo"), "0")
            for number, answer in run.answers.items():
                self.assertEqual(run.desk.say(f"answer {number}"), str(answer))

    def test_orders_read_off_a_desk(self):
        """Only what a desk tells has a part: answers by beats, the log, the board."""
        chance = random.Random(46)
        for turn in range(30):
            desk, begun, calls, number = Desk(), {}, {}, 0
            desk.say("net 3 1 2 5 -5 0 1")
            put = []
            for beat in range(1, 80):
                if number < 30 and chance.random() < 0.7:
                    for more in range(chance.randint(1, 4)):
                        ask = (chance.randrange(8), number % 4, chance.choice(EVERY_DEED))
                        self.assertEqual(desk.say(f"put {ask[0]} {ask[1]} {deed_text(ask[2])}"), str(number))
                        begun[number] = 2 * beat - 1
                        put.append(ask)
                        number += 1
                        if number == 32:
                            break
                told = desk.say(f"beat {chance.randint(1, 3)} {chance.randrange(4)} 0 {chance.randrange(8)}")
                for part in told.split("; ") if told != "none" else []:
                    which, answer = map(int, part.split(" "))
                    self.assertNotIn(which, calls)
                    calls[which] = put[which] + (begun[which], 2 * beat, answer)
            told = desk.say("run 200")
            for part in told.split("; ") if told != "none" else []:
                which, answer = map(int, part.split(" "))
                self.assertNotIn(which, calls)
                calls[which] = put[which] + (begun[which], 1000, answer)
            row = tuple(calls[which] for which in range(number))
            log = tuple(map(int, desk.say("log").split(" ")))
            self.assertIs(fits((5, -5, 0, 1), row, log), True)
            self.assertIs(fits((5, -5, 0, 1), row, an_order((5, -5, 0, 1), row)), True)
            board = played((5, -5, 0, 1), tuple(put[which] for which in log))[1]
            self.assertEqual(desk.say("board"), " ".join(map(str, board)))


class AllAtOnce(unittest.TestCase):
    def test_a_rounds_answers_fit(self):
        chance = random.Random(47)
        for turn in range(80):
            k = chance.randrange(5)
            board = tuple(chance.randint(-9, 9) for box in range(chance.choice((2, 5, 16))))
            free = chance.sample([box for box in range(len(board)) for time in range(8)], k=2 ** k)
            asks = tuple((hand, free[hand], chance.choice(EVERY_DEED)) for hand in range(2 ** k))
            answers, behind = one_round(k, board, asks, straight(k))
            calls = tuple(ask + (0, 0, answer) for ask, answer in zip(asks, answers))
            self.assertIs(fits(board, calls, an_order(board, calls)), True)
            orders = tuple(
                tuple(hand for hand in told_order(k, box % 2 ** k, straight(k)) if asks[hand][1] == box)
                for box in range(len(board))
            )
            order = gone_together(board, calls, orders)
            self.assertEqual(played(board, tuple(asks[number] for number in order))[1], behind)


class WithoutAClash(unittest.TestCase):
    def test_settings_or_a_line(self):
        chance = random.Random(48)
        found = {"settings": 0, "clash": 0}
        for turn in range(300):
            k = chance.randrange(4)
            sides = tuple(chance.sample(range(2 ** k), k=2 ** k))
            kind, told = settings_for(k, sides)
            found[kind] += 1
            if kind == "settings":
                self.assertEqual(led(k, told), sides)
            else:
                self.assertEqual(first_shared(k, tuple(enumerate(sides))), told)
        self.assertGreater(min(found.values()), 50)


if __name__ == "__main__":
    unittest.main()
