"""A desk: it is told rows of words about a net in time, and answers each with a text."""

from joinedasks.beats import Net
from joinedasks.deeds import LOOK, then
from joinedasks.deedtexts import deed_text, read_deed
from joinedasks.errors import NoRow
from joinedasks.rounds import one_round
from joinedasks.settings import straight
from joinedasks.whole import read_whole, written

MOST_BEATS = 300
PARTING = "; "


def words_of(row):
    """The words of the row, with one blank between each two."""
    if not isinstance(row, str):
        raise NoRow("a row is a text")
    words = row.split(" ")
    if "" in words:
        raise NoRow("a row is words with one blank between each two")
    return words


def value_in(word):
    """The number that the word is."""
    number = read_whole(word)
    if number is None:
        raise NoRow("a number is written in figures, without needless noughts")
    return number


def number_in(word):
    """The number from 0 on that the word is."""
    number = value_in(word)
    if number < 0:
        raise NoRow("only a value may be below 0")
    return number


def numbers_in(words):
    """The numbers from 0 on that the words are."""
    return [number_in(word) for word in words]


def need_words(words, many):
    """Refuses words that are too few or too many."""
    if len(words) != many:
        raise NoRow("there are too few words, or too many")


def need_words_from(words, least):
    """Refuses words that are too few."""
    if len(words) < least:
        raise NoRow("there are too few words")


def ask_in(words):
    """(hand, box, text): the ask that the words are, its deed not read yet."""
    need_words_from(words, 3)
    return (number_in(words[0]), number_in(words[1]), " ".join(words[2:]))


def with_deed(ask):
    """The ask, its deed's text read."""
    hand, box, text = ask
    return (hand, box, read_deed(text))


def parted(words):
    """The texts between the partings."""
    return " ".join(words).split(PARTING)


def or_none(text):
    """The text, but a word where there is nothing in it."""
    return text if text else "none"


def numbers_text(numbers):
    """The numbers with a blank between each two."""
    return or_none(" ".join([written(number) for number in numbers]))


def answers_text(answered):
    """The tuples (number, answer), each written with a blank between, parted."""
    return or_none(PARTING.join([written(number) + " " + written(answer) for number, answer in answered]))


def say_net(desk, words):
    """A new net in the place of the one that the desk has."""
    need_words_from(words, 4)
    k, room, kept = numbers_in(words[:3])
    board = tuple([value_in(word) for word in words[3:]])
    desk.net = Net(k, board, room, kept)
    return "ok"


def say_put(desk, words):
    """An ask is put."""
    ask = ask_in(words)
    return written(desk.net.put(with_deed(ask)))


def say_beat(desk, words):
    """One beat, in which some switches and sides may be lost."""
    numbers = numbers_in(words)
    if len(numbers) & 1 == 1:
        raise NoRow("what is lost is told by two numbers each")
    return answers_text(desk.net.beat(tuple(zip(numbers[::2], numbers[1::2]))))


def say_run(desk, words):
    """So many beats, in which nothing is lost."""
    need_words(words, 1)
    many = number_in(words[0])
    if not 1 <= many <= MOST_BEATS:
        raise NoRow("a run is of 1 to 300 beats")
    answered = []
    for turn in range(many):
        answered.extend(desk.net.beat())
    return answers_text(answered)


def say_board(desk, words):
    """The board as it is now."""
    need_words(words, 0)
    return numbers_text(desk.net.board())


def say_log(desk, words):
    """The numbers of the asks that are done."""
    need_words(words, 0)
    return numbers_text(desk.net.log())


def say_todo(desk, words):
    """How many asks are not answered."""
    need_words(words, 0)
    return written(desk.net.todo())


def say_answer(desk, words):
    """What an ask was answered."""
    need_words(words, 1)
    answer = desk.net.answer(number_in(words[0]))
    return "none" if answer is None else written(answer)


def say_wait(desk, words):
    """What waits on a line."""
    need_words(words, 2)
    level, line = numbers_in(words)
    waiting = desk.net.waiting(level, line)
    return or_none(PARTING.join([written(box) + " " + deed_text(deed) for box, deed, numbers in waiting]))


def say_then(desk, words):
    """What deeds make, one after another."""
    need_words_from(words, 1)
    together = LOOK
    for text in parted(words):
        together = then(together, read_deed(text))
    return deed_text(together)


def say_round(desk, words):
    """The answers of a round at the board, which stays."""
    asks = [ask_in(text.split(" ")) for text in parted(words)]
    k = desk.net.depth
    answers, board = one_round(k, desk.net.board(), tuple([with_deed(ask) for ask in asks]), straight(k))
    return numbers_text(answers)


SAYINGS = {
    "net": say_net,
    "put": say_put,
    "beat": say_beat,
    "run": say_run,
    "board": say_board,
    "log": say_log,
    "todo": say_todo,
    "answer": say_answer,
    "wait": say_wait,
    "then": say_then,
    "round": say_round,
}


class Desk:
    """A desk with a net in time."""

    def __init__(self):
        self.net = Net(0, (0,), 1, 0)

    def say(self, row):
        """The answer to the row."""
        words = words_of(row)
        if words[0] not in SAYINGS:
            raise NoRow("the desk knows no such row")
        saying = SAYINGS[words[0]]
        return saying(self, words[1:])
