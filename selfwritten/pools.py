"""Pools of parts: terms over words, each part once."""

from selfwritten.errors import BadOp, BadPart, BadWords, TooMany
from selfwritten.operations import EITHER_WAY, OPS, op_word, shortened
from selfwritten.widths import check_int, is_int, is_row, ones

MOST_PARTS = 4000
LAST_UNKNOWN = 63


class Pool:
    """Parts of terms over words of one width, numbered as they are made."""

    def __init__(self, width):
        check_int(width, 1, 12, "width")
        self.width = width
        self._most = ones(width)
        self._parts = []
        self._numbers = {}

    def __len__(self):
        return len(self._parts)

    def __iter__(self):
        return iter(self._parts)

    @staticmethod
    def ops():
        return OPS

    def check_part(self, number):
        """Returns the number if it is that of a part."""
        if not is_int(number) or number < 0 or number >= len(self._parts):
            raise BadPart()
        return number

    def check_parts(self, numbers):
        """Returns the tuple of a row of part numbers."""
        if not is_row(numbers):
            raise BadPart()
        return tuple([self.check_part(number) for number in numbers])

    def num(self, value):
        check_int(value, 0, self._most, "value")
        return self._made(("num", value))

    def unknown(self, number):
        check_int(number, 0, LAST_UNKNOWN, "number")
        return self._made(("get", number))

    def apply(self, name, one, other):
        """The number of the part that the operation gives on two parts."""
        if name not in OPS:
            raise BadOp(name)
        self.check_part(one)
        self.check_part(other)
        first, second = self._word(one), self._word(other)
        if first is not None and second is not None:
            return self._made(("num", op_word(name, first, second, self.width)))
        if name in EITHER_WAY and one > other:
            one, other = other, one
            first, second = second, first
        short = shortened(name, first, second, one == other, self._most)
        if short == "one":
            return one
        if short == "other":
            return other
        if short == "zero":
            return self._made(("num", 0))
        if short == "unit":
            return self._made(("num", 1))
        return self._made((name, one, other))

    def part(self, number):
        return self._parts[self.check_part(number)]

    def value(self, number, words):
        """The word of a part, from the words of the unknowns."""
        numbers = self.reached(number)
        if not is_row(words):
            raise BadWords(-1)
        for i in self._gets(numbers):
            if i >= len(words) or not is_int(words[i]) or words[i] < 0 or words[i] > self._most:
                raise BadWords(i)
        found = {}
        for at in numbers:
            part = self._parts[at]
            if part[0] == "num":
                found[at] = part[1]
            elif part[0] == "get":
                found[at] = words[part[1]]
            else:
                found[at] = op_word(part[0], found[part[1]], found[part[2]], self.width)
        return found[number]

    def reached(self, number):
        """The numbers of all parts that the part is made of, itself too."""
        return self.reached_by([self.check_part(number)])

    def reached_by(self, numbers):
        """The numbers of all parts that any of the parts is made of."""
        found = {number: True for number in self.check_parts(numbers)}
        waiting = list(found)
        while waiting:
            part = self._parts[waiting.pop()]
            if len(part) == 3:
                for operand in part[1:]:
                    if operand not in found:
                        found[operand] = True
                        waiting.append(operand)
        return tuple(sorted(found))

    def unknowns(self, numbers):
        """The unknowns that any of the parts is made of."""
        return self._gets(self.reached_by(numbers))

    def chosen(self, test, one, other):
        """The part whose word is that of one where test is not 0, else that of other."""
        for number in (test, one, other):
            self.check_part(number)
        apart = self.apply("xor", one, other)
        is_zero = self.apply("same", test, self.num(0))
        mask = self.apply("sub", is_zero, self.num(1))
        return self.apply("xor", other, self.apply("and", apart, mask))

    def carry(self, one, other):
        """The part whose word is 1 where the sum of both words is too large."""
        return self.apply("less", self.apply("add", one, other), one)

    def _made(self, part):
        """The number of the part, which is made if it does not exist."""
        if part in self._numbers:
            return self._numbers[part]
        if len(self._parts) >= MOST_PARTS:
            raise TooMany("parts")
        self._numbers[part] = len(self._parts)
        self._parts.append(part)
        return self._numbers[part]

    def _word(self, number):
        """The word that the part is, or None."""
        part = self._parts[number]
        return part[1] if part[0] == "num" else None

    def _gets(self, numbers):
        """The unknowns among these parts, ascending."""
        parts = [self._parts[number] for number in numbers]
        return tuple(sorted([part[1] for part in parts if part[0] == "get"]))
