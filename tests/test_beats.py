"""A net in time: promises 19 to 22, and 4 as far as it speaks of what comes beat by beat."""

import random
import unittest

from joinedasks.beats import Net
from joinedasks.boards import played
from joinedasks.deeds import then
from joinedasks.errors import NoAsk, NoBoard, NoHand, NoNet, NoNumber, NoSide, TooMany
from plainnet import PlainNet
from roundsamples import ADD, EVERY_DEED, NO_ASKS_OF_TWO
from samples import BIG, NO_NETS, NO_NUMBERS, NO_TUPLES_OF_TWO

DEPTHS = range(5)
LOOK = (0, None, None)


def plus(number):
    return (number, None, None)


def switches_of(k):
    return [(stage, number) for stage in range(1, k + 1) for number in range(2 ** (k - 1))]


def lines_of(k):
    return [(level, line) for level in range(k + 1) for line in range(2 ** k)]


def seen(net, k):
    """All that can be asked of a net."""
    answers = []
    number = 0
    while number < 41:
        try:
            answers.append(net.answer(number))
        except NoNumber:
            break
        number += 1
    waiting = [net.waiting(level, line) for level, line in lines_of(k)]
    joinings = [net.joinings(stage, number) for stage, number in switches_of(k)]
    return (net.beats(), net.board(), net.log(), net.todo(), answers, waiting, joinings)


def filled(k, board, room, kept, asks):
    net = Net(k, board, room, kept)
    for ask in asks:
        net.put(ask)
    return net


class Begin(unittest.TestCase):
    def test_every_depth(self):
        for k in DEPTHS:
            for board in ((3,), tuple(range(16)), (BIG, -BIG)):
                for room, kept in ((1, 0), (6, 6), (1, 6), (6, 0), (3, 2)):
                    net = Net(k, board, room, kept)
                    self.assertEqual((net.beats(), net.board(), net.log(), net.todo()), (0, board, (), 0))
                    for level, line in lines_of(k):
                        self.assertEqual(net.waiting(level, line), ())
                    for stage, number in switches_of(k):
                        self.assertEqual(net.joinings(stage, number), 0)

    def test_no_net(self):
        for k in NO_NETS:
            for board, room, kept in (((0,), 1, 0), (None, 1, 0), ((0,), 0, 0), ((0,), 1, 7), ([], [], [])):
                with self.assertRaises(NoNet):
                    Net(k, board, room, kept)

    def test_no_number(self):
        for board in ((0,), (), None, [0], (True,)):
            for thing in NO_NUMBERS + [0, -1, 7, BIG, -BIG]:
                with self.assertRaises(NoNumber):
                    Net(2, board, thing, 0)
            for thing in NO_NUMBERS + [-1, 7, BIG, -BIG]:
                with self.assertRaises(NoNumber):
                    Net(2, board, 1, thing)

    def test_no_board(self):
        for board in [thing for thing in NO_NUMBERS if thing != (0,)] + [0, (0,) * 17, [0], (True,), (0, None)]:
            with self.assertRaises(NoBoard):
                Net(2, board, 1, 0)

    def test_two_beside_one_another(self):
        one, other = Net(2, (5, 6), 1, 1), Net(2, (5, 6), 1, 1)
        ahead = seen(other, 2)
        one.put((0, 0, ADD))
        one.put((2, 0, ADD))
        for turn in range(6):
            one.beat()
        self.assertEqual(seen(other, 2), ahead)
        self.assertEqual(one.board(), (15, 6))
        self.assertEqual(other.put((1, 1, ADD)), 0)
        self.assertEqual(other.beat(), ())
        self.assertEqual((one.beats(), other.beats(), one.todo(), other.todo()), (6, 1, 0, 1))


class Put(unittest.TestCase):
    def test_numbers_and_places(self):
        for k in DEPTHS:
            net = Net(k, (1, 2), 1, 0)
            for number in range(40):
                hand = number * 3 % 2 ** k
                self.assertEqual(net.put((hand, number % 2, plus(number))), number)
                self.assertEqual(net.todo(), number + 1)
                self.assertEqual(net.waiting(0, hand)[-1], (number % 2, plus(number), (number,)))
                self.assertIs(net.answer(number), None)
            for hand in range(2 ** k):
                own = [number for number in range(40) if number * 3 % 2 ** k == hand]
                self.assertEqual([row[2] for row in net.waiting(0, hand)], [(number,) for number in own])

    def test_the_forty_first(self):
        net = filled(1, (0,), 1, 1, [(0, 0, ADD)] * 40)
        for turn in range(2):
            ahead = seen(net, 1)
            with self.assertRaises(TooMany):
                net.put((1, 0, ADD))
            self.assertEqual(seen(net, 1), ahead)
            for beat in range(90):
                net.beat()
        self.assertEqual((net.todo(), net.board()), (0, (200,)))

    def test_no_ask(self):
        alone = [row[0] for row in NO_ASKS_OF_TWO if isinstance(row, tuple) and len(row) == 1]
        wrong = NO_NUMBERS + alone + [0, (0, 0, ADD, 0), [0, 0, ADD], (0, 2, ADD), (16, 0, ADD), ((0, 0, ADD),), (-1, 0, ADD)]
        for k in DEPTHS:
            for fill in (0, 3, 40):
                net = filled(k, (1, 2), 1, 1, [(0, 0, ADD)] * fill)
                ahead = seen(net, k)
                for ask in wrong:
                    with self.assertRaises(NoAsk):
                        net.put(ask)
                self.assertEqual(seen(net, k), ahead)

    def test_no_ask_ahead_of_no_hand(self):
        with self.assertRaises(NoAsk):
            Net(1, (1, 2), 1, 1).put((2, 2, ADD))

    def test_no_hand(self):
        for k in range(4):
            for fill in (0, 40):
                net = filled(k, (1, 2), 1, 1, [(0, 0, ADD)] * fill)
                ahead = seen(net, k)
                for hand in range(2 ** k, 16):
                    with self.assertRaises(NoHand):
                        net.put((hand, 0, ADD))
                self.assertEqual(seen(net, k), ahead)


class Beat(unittest.TestCase):
    def test_one_alone(self):
        for k in DEPTHS:
            for box in range(16):
                for hand in range(2 ** k):
                    for room, kept, ahead in ((1, 0, 0), (6, 6, 1)):
                        net = Net(k, tuple(range(16)), room, kept)
                        for turn in range(ahead):
                            net.beat()
                        net.put((hand, box, ADD))
                        told = [net.beat() for turn in range(2 * k + 2)]
                        self.assertEqual(told, [()] * (2 * k) + [((0, box),), ()])
                        self.assertEqual(net.answer(0), box)

    def test_one_alone_step_by_step(self):
        net = Net(2, (7, 8), 1, 0)
        net.put((3, 1, ADD))
        places = [(0, 3), (1, 1), (2, 1)]
        for turn, place in enumerate(places):
            self.assertEqual([spot for spot in lines_of(2) if net.waiting(*spot)], [place])
            self.assertEqual(net.waiting(*place), ((1, ADD, (0,)),))
            self.assertEqual((net.log(), net.board(), net.todo(), net.beats()), ((), (7, 8), 1, turn))
            self.assertEqual(net.beat(), ())
        self.assertEqual((net.log(), net.board(), net.todo(), net.answer(0)), ((0,), (7, 13), 1, None))
        self.assertEqual(net.beat(), ())
        self.assertEqual((net.todo(), net.answer(0)), (1, None))
        self.assertEqual(net.beat(), ((0, 8),))
        self.assertEqual((net.todo(), net.answer(0)), (0, 8))

    def test_no_net_deep(self):
        net = filled(0, (5, 6), 1, 0, [(0, 1, plus(1)), (0, 0, plus(2)), (0, 1, plus(4))])
        self.assertEqual(net.waiting(0, 0), ((1, plus(1), (0,)), (0, plus(2), (1,)), (1, plus(4), (2,))))
        self.assertEqual(net.beat(), ((0, 6),))
        self.assertEqual(net.beat(((0, 0),)), ())
        self.assertEqual(net.beat(), ((1, 5),))
        self.assertEqual(net.beat(), ((2, 7),))
        self.assertEqual((net.log(), net.board(), net.beats(), net.todo()), ((0, 1, 2), (7, 11), 4, 0))

    def test_all_hands_to_one_box(self):
        for k in DEPTHS:
            for kept in (1, 2, 6):
                for ahead in (0, 1):
                    for box in range(2 ** k):
                        net = Net(k, (100,) * 16, 1, kept)
                        for turn in range(ahead):
                            net.beat()
                        for hand in range(2 ** k):
                            net.put((hand, box, plus(2 ** hand)))
                        told = []
                        for turn in range(2 * k + 1):
                            told.append(net.beat())
                            came = net.waiting(k, box)
                            if turn + 1 == k:
                                self.assertEqual([row[:2] for row in came], [(box, plus(2 ** 2 ** k - 1))])
                            elif k > 0:
                                self.assertEqual(came, ())
                        self.assertEqual(told[:-1], [()] * (2 * k))
                        self.assertEqual([number for number, answer in told[-1]], list(range(2 ** k)))
                        self.assertEqual(net.board()[box], 100 + 2 ** 2 ** k - 1)
                        self.assertEqual(net.todo(), 0)

    def test_none_may_be_kept(self):
        net = filled(1, (0,), 6, 0, [(0, 0, plus(1)), (1, 0, plus(2)), (0, 0, plus(4)), (1, 0, plus(8))])
        net.beat()
        # In a beat of odd number the in-line with the figure 1 goes first.
        self.assertEqual(net.waiting(1, 0), ((0, plus(2), (1,)), (0, plus(1), (0,))))
        self.assertEqual(net.joinings(1, 0), 0)
        net.beat()
        self.assertEqual(net.waiting(1, 0), ((0, plus(1), (0,)), (0, plus(4), (2,)), (0, plus(8), (3,))))
        told = [net.beat() for turn in range(4)]
        self.assertEqual(told, [((1, 0),), ((0, 2),), ((2, 3),), ((3, 7),)])
        self.assertEqual(net.log(), (1, 0, 2, 3))

    def test_little_room_holds_up(self):
        net = filled(1, (0, 0, 0), 1, 6, [(0, 0, plus(1)), (1, 2, plus(2)), (0, 1, plus(4))])
        net.beat()
        self.assertEqual(net.waiting(1, 0), ((2, plus(2), (1,)),))
        self.assertEqual(net.waiting(0, 0), ((0, plus(1), (0,)), (1, plus(4), (2,))))
        net.beat()
        self.assertEqual(net.waiting(1, 0), ((0, plus(1), (0,)),))
        # The ask behind was held up, too, though its line was free.
        self.assertEqual((net.waiting(0, 0), net.waiting(1, 1)), (((1, plus(4), (2,)),), ()))
        self.assertEqual([net.beat() for turn in range(3)], [((1, 0),), ((0, 0),), ((2, 0),)])

    def test_turns_of_in_lines(self):
        for ahead in (0, 1, 2, 3):
            net = Net(1, (0, 0, 0), 1, 0)
            for turn in range(ahead):
                net.beat()
            net.put((0, 0, plus(1)))
            net.put((1, 2, plus(2)))
            net.beat()
            first = (ahead + 1) % 2
            self.assertEqual([row[2] for row in net.waiting(1, 0)], [(first,)])
            self.assertEqual([row[2] for row in net.waiting(0, 1 - first)], [(1 - first,)])

    def test_joined_with_the_last_of_the_same_box(self):
        asks = [(0, 0, plus(1)), (1, 2, plus(2)), (0, 0, plus(4)), (1, 0, plus(8))]
        net = filled(1, (0, 0, 0), 6, 1, asks)
        # Nothing is taken, so all wait on one line.
        net.beat(((0, 0),))
        self.assertEqual(net.waiting(1, 0), ((2, plus(2), (1,)), (0, plus(1), (0,))))
        net.beat(((0, 0),))
        # Ask 2 is joined in ask 0; ask 3 finds nothing left to be kept, and waits.
        self.assertEqual(net.waiting(1, 0), ((2, plus(2), (1,)), (0, plus(5), (0, 2)), (0, plus(8), (3,))))
        self.assertEqual(net.joinings(1, 0), 1)
        net.put((0, 2, plus(16)))
        net.beat(((0, 0),))
        self.assertEqual(len(net.waiting(1, 0)), 4)
        net = filled(1, (0, 0, 0), 6, 2, asks + [(1, 0, plus(16))])
        for turn in range(3):
            net.beat(((0, 0),))
        self.assertEqual(net.waiting(1, 0), ((2, plus(2), (1,)), (0, plus(13), (0, 2, 3)), (0, plus(16), (4,))))
        net.put((0, 0, plus(32)))
        net.put((0, 2, plus(64)))
        net.beat()
        self.assertEqual(net.waiting(1, 0), ((0, plus(13), (0, 2, 3)), (0, plus(16), (4,)), (0, plus(32), (5,))))
        net.beat()
        self.assertEqual(net.waiting(1, 0), ((0, plus(16), (4,)), (0, plus(32), (5,)), (2, plus(64), (6,))))

    def test_there_need_not_be_room_to_be_joined(self):
        net = filled(1, (0,), 1, 6, [(0, 0, plus(1 << at)) for at in range(4)] + [(1, 0, plus(16))])
        for turn in range(4):
            net.beat(((0, 0),))
        # In the first beat, of odd number, hand 1's ask came first.
        self.assertEqual(net.waiting(1, 0), ((0, plus(31), (4, 0, 1, 2, 3)),))
        self.assertEqual(net.joinings(1, 0), 4)

    def test_forgotten_in_the_told_beat(self):
        for k in range(1, 5):
            net = filled(k, (0,), 1, 1, [(hand, 0, plus(2 ** hand)) for hand in range(2 ** k)])
            for beat in range(1, 3 * k):
                # What comes in is done in beat k + 1: stage s joins in beat s, and forgets k - s + 1 beats later.
                net.beat()
                for stage in range(1, k + 1):
                    met = [number for number in range(2 ** (k - 1)) if net.joinings(stage, number)]
                    held = stage <= beat < k + 1 + k - stage + 1
                    self.assertEqual(met, list(range(2 ** (k - stage))) if held else [], (k, beat, stage))

    def test_forgotten_by_a_lost_switch_too(self):
        net = filled(1, (0,), 1, 1, [(0, 0, plus(1)), (1, 0, plus(2))])
        net.beat()
        self.assertEqual(net.joinings(1, 0), 1)
        net.beat()
        self.assertEqual((net.joinings(1, 0), net.log()), (1, (1, 0)))
        self.assertEqual(net.beat(((1, 0),)), ((0, 2), (1, 0)))
        self.assertEqual(net.joinings(1, 0), 0)

    def test_what_is_forgotten_may_be_kept_again_in_the_same_beat(self):
        net = filled(1, (0,), 1, 1, [(0, 0, plus(1)), (1, 0, plus(2)), (0, 0, plus(4)), (1, 0, plus(8))])
        net.beat()
        net.beat()
        # Beat 2: the side took the first two, ask 2 came, ask 3 could not be joined as the switch remembers one.
        self.assertEqual((net.log(), net.waiting(1, 0), net.joinings(1, 0)), ((1, 0), ((0, plus(4), (2,)),), 1))
        net.beat()
        # Beat 3: the first joining is forgotten, ask 2 is done, ask 3 comes alone.
        self.assertEqual((net.log(), net.waiting(1, 0), net.joinings(1, 0)), ((1, 0, 2), ((0, plus(8), (3,)),), 0))
        net.put((0, 0, plus(16)))
        net.put((1, 0, plus(32)))
        net.beat(((0, 0),))
        self.assertEqual(net.waiting(1, 0), ((0, plus(24), (3, 4)),))
        self.assertEqual(net.joinings(1, 0), 1)


class Lost(unittest.TestCase):
    def test_a_lost_switch(self):
        net = filled(2, (0,), 1, 1, [(0, 0, plus(1)), (1, 0, plus(2))])
        net.beat(((1, 0),))
        self.assertEqual((len(net.waiting(0, 0)), len(net.waiting(0, 1)), len(net.waiting(1, 1))), (1, 0, 1))
        net.beat(((2, 0),))
        self.assertEqual((len(net.waiting(1, 0)), len(net.waiting(1, 1)), len(net.waiting(2, 0))), (1, 1, 0))
        net.beat()
        self.assertEqual(net.waiting(2, 0), ((0, plus(3), (1, 0)),))
        net.beat(((0, 0),))
        self.assertEqual((net.log(), len(net.waiting(2, 0))), ((), 1))
        net.beat(((0, 1), (0, 2), (0, 3)))
        self.assertEqual(net.log(), (1, 0))

    def test_nothing_holds_up_answers(self):
        for k in DEPTHS:
            everything = tuple(switches_of(k)) + tuple((0, side) for side in range(2 ** k))
            net = filled(k, (0,), 1, 1, [(hand, 0, plus(1)) for hand in range(2 ** k)])
            for turn in range(k + 1):
                told = net.beat()
            for turn in range(k):
                self.assertEqual(told, ())
                told = net.beat(everything)
            self.assertEqual([number for number, answer in told], list(range(2 ** k)))

    def test_all_lost(self):
        for k in DEPTHS:
            everything = tuple(switches_of(k)) + tuple((0, side) for side in range(2 ** k))
            net = filled(k, (0, 1), 1, 1, [(hand, hand % 2, plus(1)) for hand in range(2 ** k)])
            ahead = seen(net, k)
            for turn in range(5):
                self.assertEqual(net.beat(everything), ())
            self.assertEqual(seen(net, k)[1:], ahead[1:])
            self.assertEqual(net.beats(), 5)

    def test_none_and_the_empty_row_and_any_order(self):
        asks = [(hand * 3 % 8, hand % 3, plus(2 ** hand)) for hand in range(20)]
        nets = [filled(3, (0, 0, 0), 2, 1, asks) for turn in range(3)]
        for turn in range(40):
            self.assertEqual(nets[0].beat(), nets[1].beat(None))
            nets[2].beat(())
            self.assertEqual(seen(nets[0], 3), seen(nets[1], 3))
            self.assertEqual(seen(nets[0], 3), seen(nets[2], 3))
        rows = [((1, 2), (0, 1), (3, 0)), ((3, 0), (1, 2), (0, 1)), ((0, 1), (3, 0), (0, 1), (1, 2), (1, 2))]
        nets = [filled(3, (0, 0, 0), 2, 1, asks) for row in rows]
        for turn in range(40):
            told = [net.beat(row) for net, row in zip(nets, rows)]
            self.assertEqual(told, [told[0]] * 3)
            self.assertEqual(seen(nets[0], 3), seen(nets[1], 3))
            self.assertEqual(seen(nets[0], 3), seen(nets[2], 3))

    def test_no_side(self):
        for k in DEPTHS:
            net = filled(k, (0, 1), 1, 1, [(0, 0, plus(1)), (0, 1, plus(2))])
            net.beat()
            ahead = seen(net, k)
            half = 2 ** k // 2
            pairs = [(0, 2 ** k), (0, -1), (-1, 0), (k + 1, 0), (1, half), (k, half if k else 1), (1, -1), (1, 16)]
            pairs += [(False, 0), (0, False), (True, 0), (0, True), (1, False), (0, BIG), (BIG, 0), (0, None), (None, 0)]
            pairs += [(0, "0"), ("0", 0), (0, (0,)), ((0,), 0), (0, [0])]
            wrong = [thing for thing in NO_NUMBERS if thing is not None and thing != ()]
            wrong += [0, (0, 0), [(0, 0)], [], {(0, 0)}, ((0, 0), 0), ((0, 0), None), (((0, 0),),)]
            wrong += [(pair,) for pair in pairs + NO_TUPLES_OF_TWO] + [((0, 0), pair) for pair in pairs + NO_TUPLES_OF_TWO]
            for lost in wrong:
                with self.assertRaises(NoSide):
                    net.beat(lost)
            self.assertEqual(seen(net, k), ahead)


class Looks(unittest.TestCase):
    def test_waiting_at_lines_that_there_are_not(self):
        for k in DEPTHS:
            net = Net(k, (0,), 1, 1)
            for thing in NO_NUMBERS + [-1, 2 ** k, 16, BIG]:
                with self.assertRaises(NoSide):
                    net.waiting(0, thing)
                with self.assertRaises(NoSide):
                    net.waiting(k, thing)
            for thing in NO_NUMBERS + [-1, k + 1, 5, BIG]:
                for line in (0, None, 99):
                    with self.assertRaises(NoSide):
                        net.waiting(thing, line)

    def test_joinings_of_switches_that_there_are_not(self):
        for k in DEPTHS:
            net = Net(k, (0,), 1, 1)
            for thing in NO_NUMBERS + [-1, 2 ** k // 2, 8, BIG]:
                for stage in (1, k):
                    with self.assertRaises(NoSide):
                        net.joinings(stage, thing)
            for thing in NO_NUMBERS + [-1, 0, k + 1, 5, BIG]:
                for number in (0, None, 99):
                    with self.assertRaises(NoSide):
                        net.joinings(thing, number)

    def test_answers_of_no_ask(self):
        net = Net(1, (0,), 1, 1)
        for many in range(3):
            for number in NO_NUMBERS + [-1, many, many + 1, 40, BIG]:
                with self.assertRaises(NoNumber):
                    net.answer(number)
            net.put((0, 0, ADD))
        self.assertIs(net.answer(2), None)

    def test_what_is_refused_changes_nothing(self):
        net = filled(2, (0, 1), 1, 1, [(hand, 0, plus(hand)) for hand in range(4)])
        for turn in range(8):
            ahead = seen(net, 2)
            for thing in NO_NUMBERS + [-1, 16]:
                for refused in (net.answer, lambda line: net.waiting(0, line), lambda number: net.joinings(1, number)):
                    with self.assertRaises((NoNumber, NoSide)):
                        refused(thing)
            self.assertEqual(seen(net, 2), ahead)
            net.beat()
        self.assertEqual((net.beats(), net.todo(), net.board()), (8, 0, (6, 1)))

    def test_looking_changes_nothing(self):
        net = filled(2, (0, 1), 1, 1, [(hand, 0, plus(hand)) for hand in range(4)])
        for turn in range(8):
            self.assertEqual(seen(net, 2), seen(net, 2))
            net.beat()

    def test_what_was_told_stays(self):
        net = filled(1, (0,), 1, 1, [(0, 0, plus(1)), (1, 0, plus(2))])
        net.beat()
        waiting, board, log = net.waiting(1, 0), net.board(), net.log()
        for turn in range(3):
            net.beat()
        self.assertEqual((waiting, board, log), (((0, plus(3), (1, 0)),), (0,), ()))


class Runs(unittest.TestCase):
    """Whole runs, by chance, against the words of the promises."""

    def same(self, net, plain, k):
        for level, line in lines_of(k):
            rows = net.waiting(level, line)
            bundles = plain.lines[level][line]
            self.assertEqual([(row[0], list(row[2])) for row in rows], [(own.box, own.numbers) for own in bundles])
            for box, deed, numbers in rows:
                together = LOOK
                for number in numbers:
                    together = then(together, plain.asks[number][2])
                self.assertEqual(deed, together)
        for switch in switches_of(k):
            self.assertEqual(net.joinings(*switch), len(plain.remembers.get(switch, [])))
        self.assertEqual((net.beats(), net.board()), (plain.beat_number, plain.board()))
        self.assertEqual((list(net.log()), net.todo()), (plain.log(), len(plain.asks) - len(plain.answered)))
        for number in range(len(plain.asks)):
            self.assertEqual(net.answer(number), plain.answered.get(number))

    def limits(self, net, k, room, kept):
        for level, line in lines_of(k):
            if level > 0:
                self.assertLessEqual(len(net.waiting(level, line)), room)
        for switch in switches_of(k):
            self.assertLessEqual(net.joinings(*switch), kept)

    def behind(self, board, asks, net, told, put_at, told_at):
        """What holds when all are answered."""
        self.assertEqual(sorted(number for number, answer in told), list(range(len(asks))))
        order = net.log()
        self.assertEqual(sorted(order), list(range(len(asks))))
        answers, after = played(board, tuple(asks[number] for number in order))
        self.assertEqual(dict(zip(order, answers)), dict(told))
        self.assertEqual(after, net.board())
        places = {number: place for place, number in enumerate(order)}
        for late in range(len(asks)):
            for early in range(late):
                if asks[early][:2] == asks[late][:2]:
                    self.assertLess(places[early], places[late])
                if told_at[early] <= put_at[late]:
                    self.assertLess(places[early], places[late])

    def run_one(self, chance, k, board, room, kept, hot):
        net, plain = Net(k, board, room, kept), PlainNet(k, board, room, kept)
        everything = switches_of(k) + [(0, side) for side in range(2 ** k)]
        many = chance.randint(1, 40)
        told, put_at, told_at, asks = [], {}, {}, []
        while len(asks) < many:
            for turn in range(min(chance.randint(0, 6), many - len(asks))):
                box = 0 if chance.random() < hot else chance.randrange(len(board))
                ask = (chance.randrange(2 ** k), box, chance.choice(EVERY_DEED))
                put_at[net.put(ask)] = net.beats()
                plain.put(ask)
                asks.append(ask)
            lost = tuple(chance.choices(everything, k=chance.choice((0, 0, 1, 3, 8))))
            answered = net.beat(lost)
            self.assertEqual(answered, plain.beat(lost))
            told += answered
            told_at.update({number: net.beats() for number, answer in answered})
            self.same(net, plain, k)
            self.limits(net, k, room, kept)
        left = len(asks) - len(net.log())
        for beat in range((k + 1) * left + k):
            if beat == (k + 1) * left:
                self.assertEqual(len(net.log()), len(asks))
            answered = net.beat()
            self.assertEqual(answered, plain.beat())
            told += answered
            told_at.update({number: net.beats() for number, answer in answered})
            if beat < 12:
                self.same(net, plain, k)
        self.assertEqual(net.todo(), 0)
        self.same(net, plain, k)
        self.behind(board, asks, net, told, put_at, told_at)

    def test_by_chance(self):
        chance = random.Random(19)
        for turn in range(150):
            k = chance.randrange(5)
            board = tuple(chance.randint(-9, 9) for box in range(chance.choice((1, 2, 5, 16))))
            room, kept = chance.choice((1, 1, 2, 6)), chance.choice((0, 1, 1, 2, 6))
            self.run_one(chance, k, board, room, kept, chance.choice((0, 0.5, 1)))

    def test_enough_beats_for_forty(self):
        for k in DEPTHS:
            for kept in (0, 1):
                for hands in (1, 2 ** k):
                    asks = [(at % hands, 0, plus(at)) for at in range(40)]
                    net = filled(k, (0,), 1, kept, asks)
                    for beat in range((k + 1) * 40):
                        net.beat()
                    self.assertEqual(len(net.log()), 40)
                    for beat in range(k):
                        net.beat()
                    self.assertEqual((net.todo(), net.board()), (0, (780,)))

    def test_asked_again_all_is_told_alike(self):
        asks = [(at * 5 % 16, at * 3 % 7, EVERY_DEED[at * 11 % len(EVERY_DEED)]) for at in range(40)]
        nets = [filled(4, (4,) * 7, 2, 1, asks) for turn in range(2)]
        for beat in range(60):
            self.assertEqual(nets[0].beat(), nets[1].beat())
            self.assertEqual(seen(nets[0], 4), seen(nets[1], 4))


if __name__ == "__main__":
    unittest.main()
