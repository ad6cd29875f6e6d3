"""Words, alphabets, and lassos: infinite words that end in a loop."""

from lastslip.errors import InvalidWord, StrangeLetter

LETTERS = "abcdefghijklmnopqrstuvwxyz"
LONGEST_WORD = 200
LONGEST_START = 4000
FARTHEST = 10 ** 18


def is_number(value, least, most):
    """Whether any value is a number from the least one to the most."""
    return isinstance(value, int) and not isinstance(value, bool) and least <= value <= most


def is_word(value, most=200):
    """Whether any value is a string of at most so many lowercase letters."""
    return isinstance(value, str) and len(value) <= most and value.strip(LETTERS) == ""


def is_alphabet(value):
    """Whether any value is a string of one to three different lowercase letters, ascending."""
    return is_word(value, 3) and value != "" and list(value) == sorted(set(value))


def is_letter(value, alphabet):
    """Whether any value is a letter of an alphabet."""
    return isinstance(value, str) and len(value) == 1 and value in alphabet


def check_letters(letters, alphabet):
    """Raises StrangeLetter with the first letter that is not in the alphabet."""
    for letter in letters:
        if letter not in alphabet:
            raise StrangeLetter(letter)


def words_of(alphabet, most):
    """All words over an alphabet with at most so many letters, in their order."""
    words = [""]
    longest = [""]
    for _ in range(min(most, LONGEST_WORD)):
        longest = [word + letter for word in longest for letter in alphabet]
        words.extend(longest)
    return words


def _shortest(prefix, loop):
    """The shortest prefix and the shortest loop of an infinite word."""
    # A loop is first found again within its double at the length of its shortest period.
    root = loop[:(loop + loop).find(loop, 1)]
    common = 0
    while common < len(prefix) and prefix[-1 - common] == root[-1 - common % len(root)]:
        common += 1
    turn = len(root) - common % len(root)
    return prefix[:len(prefix) - common], root[turn:] + root[:turn]


class Lasso:
    """An infinite word: a prefix, and then a loop again and again."""

    MOST = 10000

    def __init__(self, prefix, loop):
        if not is_word(prefix, Lasso.MOST):
            raise InvalidWord(prefix)
        if not is_word(loop, Lasso.MOST) or loop == "":
            raise InvalidWord(loop)
        self.prefix, self.loop = _shortest(prefix, loop)

    @classmethod
    def of_text(cls, text):
        """The lasso that is written as `ab(ba)`."""
        if not isinstance(text, str) or not text.endswith(")"):
            raise InvalidWord(text)
        prefix, _, loop = text[:-1].partition("(")
        if not is_word(prefix, Lasso.MOST) or not is_word(loop, Lasso.MOST) or loop == "":
            raise InvalidWord(text)
        return cls(prefix, loop)

    def letter_at(self, index):
        """The letter with this index."""
        if not is_number(index, 0, FARTHEST):
            raise InvalidWord(index)
        if index < len(self.prefix):
            return self.prefix[index]
        return self.loop[(index - len(self.prefix)) % len(self.loop)]

    def start(self, many):
        """The word of the first letters."""
        if not is_number(many, 0, LONGEST_START):
            raise InvalidWord(many)
        times = many // len(self.loop) + 1
        return (self.prefix + self.loop * times)[:many]

    def letters(self):
        """The ascending string of the letters that occur."""
        return "".join(sorted(set(self.prefix + self.loop)))

    def __getitem__(self, at):
        return self.letter_at(at)

    def __iter__(self):
        raise TypeError("a lasso has no last letter")

    def __radd__(self, other):
        if not is_word(other):
            raise InvalidWord(other)
        return Lasso(other + self.prefix, self.loop)

    def __rshift__(self, other):
        if not is_number(other, 0, FARTHEST):
            raise InvalidWord(other)
        if other <= len(self.prefix):
            return Lasso(self.prefix[other:], self.loop)
        turn = (other - len(self.prefix)) % len(self.loop)
        return Lasso("", self.loop[turn:] + self.loop[:turn])

    def __eq__(self, other):
        return isinstance(other, Lasso) and self.prefix == other.prefix and self.loop == other.loop

    def __str__(self):
        return f"{self.prefix}({self.loop})"

    def __repr__(self):
        return f"Lasso({self.prefix!r}, {self.loop!r})"
