"""Tokens that pass the toggles of a counting net, and are told a number each."""

from joinedasks.errors import NoSide, NoToken, TooMany
from joinedasks.net import is_line
from joinedasks.toggles import counting_net
from joinedasks.whole import is_within

MOST_TOKENS = 40


class Counter:
    """A counting net with its tokens.

    Of each token that is inside it has its line, and how many toggles, in their order, are behind it;
    of each that is out None.
    """

    def __init__(self, k):
        gates, row = counting_net(k)
        self.depth = k
        self.gates = gates
        self.out_lines = row
        self.ups = [True] * len(gates)
        self.tokens = []
        self.came_out = [0] * len(row)
        self.given = []

    def come(self, line):
        """Lets a token come in on the line, and tells its number."""
        if not is_line(self.depth, line):
            raise NoSide("the counting net has no such line")
        if len(self.tokens) == MOST_TOKENS:
            raise TooMany("a counting net takes forty tokens")
        self.tokens.append((line, 0))
        return len(self.tokens) - 1

    def go(self, token):
        """Lets the token pass one toggle, or come out: None, or the number that it is told."""
        if not is_within(token, 0, len(self.tokens) - 1) or self.tokens[token] is None:
            raise NoToken("there is no such token inside")
        line, behind = self.tokens[token]
        to_come = [at for at in range(behind, len(self.gates)) if line in self.gates[at]]
        if not to_come:
            return self.come_out(token, line)
        at = to_come[0]
        first, second = self.gates[at]
        self.tokens[token] = (first if self.ups[at] else second, at + 1)
        self.ups[at] = not self.ups[at]
        return None

    def come_out(self, token, line):
        """Lets the token, which is on this line, come out, and tells its number."""
        place = self.out_lines.index(line)
        number = (self.came_out[place] << self.depth) + place
        self.came_out[place] += 1
        self.given.append(number)
        self.tokens[token] = None
        return number

    def inside(self):
        """How many tokens are not out."""
        return len(self.tokens) - len(self.given)

    def outs(self):
        """How many tokens came out at each place."""
        return tuple(self.came_out)

    def told(self):
        """What was told, sorted."""
        return tuple(sorted(self.given))
