"""What several tests share: values, automata, lassos, and slow but plain ways to know the right answer."""

import random
from itertools import product

from lastslip.automata import Automaton

# Values that are no word, no number, no list of transitions, ..: each test takes those that fit.
NOTHINGS = [None, True, False, (), [], ("a",), ["a"], [["a"], ("b", [None])], ((0, "a"),)]
WRONG_STRINGS = ["A", "aB", " ", "a b", "a\n", "\n", "1", "a1", "a_b", "a-", "(", "~"]
NUMBERS = [-1, 0, 1, 5, 10 ** 29]


def raised(test, error, values, call, *arguments, **named):
    """Checks that a call raises just this error, with just these values of its attributes."""
    with test.assertRaises(error) as caught:
        call(*arguments, **named)
    test.assertIs(type(caught.exception), error)
    test.assertEqual(caught.exception.code, error.__name__)
    kept = dict(vars(caught.exception))
    kept.pop("code")
    test.assertEqual(repr(kept), repr(values))


def strings(alphabet, least, most):
    """All strings with so many letters."""
    return ["".join(letters) for many in range(least, most + 1) for letters in product(alphabet, repeat=many)]


def writings(alphabet, most_prefix, most_loop):
    """All pairs of a prefix and a loop with at most so many letters."""
    return list(product(strings(alphabet, 0, most_prefix), strings(alphabet, 1, most_loop)))


def random_automaton(chance, alphabet, size, more, safe):
    """An automaton with about so many additional transitions, and safe ones of ten."""
    kinds = {}
    for state in range(size):
        for letter in alphabet:
            kinds[state, letter, chance.randrange(size)] = None
    for _ in range(more):
        kinds[chance.randrange(size), chance.choice(alphabet), chance.randrange(size)] = None
    rows = [(*key, "safe" if chance.randrange(10) < safe else "slip") for key in kinds]
    return Automaton(alphabet, size, rows, initial=chance.randrange(size))


def some_automata(seed, many, alphabets=("ab",), sizes=(1, 2, 3, 4), more=4):
    """So many automata with few and with many safe transitions; the seed tells which."""
    chance = random.Random(seed)
    return [random_automaton(chance, chance.choice(alphabets), chance.choice(sizes),
                             chance.randrange(more + 1), chance.choice((2, 5, 8)))
            for _ in range(many)]


def random_deterministic(chance, alphabet, size, safe):
    """A deterministic automaton with about so many safe transitions of ten."""
    rows = [[(chance.randrange(size), "safe" if chance.randrange(10) < safe else "slip") for _ in alphabet]
            for _ in range(size)]
    return Automaton.deterministic(alphabet, rows, initial=chance.randrange(size))


def doubled(chance, automaton):
    """The automaton with two copies of each state; transitions go to one of the copies."""
    size = automaton.size
    rows = [(source + more, letter, target + chance.choice((0, size)), kind)
            for more in (0, size) for source, letter, target, kind in automaton.transitions()]
    return Automaton(automaton.alphabet, 2 * size, rows, initial=automaton.initial + chance.choice((0, size)))


def mixed(chance, automaton):
    """The automaton with its states in another order."""
    order = list(range(automaton.size))
    chance.shuffle(order)
    return automaton.renumbered(order)


def in_a_row(before, automaton):
    """The automaton behind a row of so many states, which all letters go through by safe transitions."""
    rows = [(state, letter, state + 1 if state + 1 < before else before + automaton.initial, "safe")
            for state in range(before) for letter in automaton.alphabet]
    rows += [(source + before, letter, target + before, kind)
             for source, letter, target, kind in automaton.transitions()]
    initial = 0 if before else automaton.initial
    return Automaton(automaton.alphabet, before + automaton.size, rows, initial=initial)


def read_by(automaton, states, letters, kinds=("safe", "slip")):
    """The set of the states to which the letters lead from some states by transitions of some kinds."""
    rows = automaton.transitions()
    for letter in letters:
        states = {target for source, sign, target, kind in rows
                  if source in states and sign == letter and kind in kinds}
    return states


def really_accepts(automaton, prefix, loop):
    """Whether some run slips only finitely often, from what the loop does as a whole."""
    reached = read_by(automaton, {automaton.initial}, prefix)
    while not read_by(automaton, reached, loop) <= reached:
        reached = reached | read_by(automaton, reached, loop)
    lasting = set(range(automaton.size))
    while True:
        fewer = {state for state in lasting if read_by(automaton, {state}, loop, ("safe",)) & lasting}
        if fewer == lasting:
            return bool(reached & lasting)
        lasting = fewer


def real_tracker(automaton, most=10 ** 6):
    """The pairs of the tracker and its rows, by the words of the document."""
    def step(pair, letter):
        reached = tuple(sorted(read_by(automaton, set(pair[0]), letter)))
        held = tuple(sorted(read_by(automaton, set(pair[1]), letter, ("safe",))))
        return ((reached, held), "safe") if held else ((reached, reached), "slip")

    pairs = [((automaton.initial,), (automaton.initial,))]
    rows = []
    for pair in pairs:
        row = [step(pair, letter) for letter in automaton.alphabet]
        for late, _ in row:
            if late not in pairs:
                pairs.append(late)
        rows.append([(pairs.index(late), kind) for late, kind in row])
        if len(pairs) > most:
            break
    return pairs, rows


def written(alphabet, size, initial, text):
    """The automaton whose transitions are written as `0a1`, with `!` behind a slip."""
    rows = [(int(part[0]), part[1], int(part[2]), "slip" if part.endswith("!") else "safe") for part in text.split()]
    return Automaton(alphabet, size, rows, initial=initial)


# Automata with five and six states, and how many states their trackers have.
GREAT = [(many, written("ab", size, initial, text)) for many, size, initial, text in [
    (63, 6, 5, "0a4 0a5 0b1 0b3! 1a5! 1b1! 1b3 2a0 2a3 2b0! 2b5! 3a1 3a4 3a5! 3b1! 3b5 4a0! 4a4! 4b2 5a2! 5b0"),
    (64, 6, 5, "0a1 0a2! 0b3 1a1! 1a4 1b2 2a4! 2a5! 2b0 2b3 2b5 3a2! 3b1 3b5! 4a1 4b0! 4b1! 4b4! 5a3! 5b3!"),
    (65, 6, 1, "0a1 0b0! 0b4! 0b5! 1a1 1a2! 1b5 2a3 2b1 2b3! 2b5 3a0! 3b0 3b2! 3b3! 4a0! 4a5! 4b4! 5a0 5b2"),
    (65, 5, 3, "0a0 0a4 0b2! 0b4 1a3 1a4! 1b0 2a4 2b1 2b4 3a2 3b0 4a3! 4b2! 4b3"),
    (66, 6, 4, "0a0! 0b0 0b5! 1a5 1b0 1b1! 1b3! 1b4! 2a0! 2b3 3a0 3a1! 3b1! 3b4! 4a0 4a3 4b5 5a2 5b4"),
    (66, 5, 4, "0a1! 0b0! 0b1 1a4 1b2 1b3! 2a0! 2b1! 2b3! 2b4! 3a0 3b0! 3b3 4a3 4b0 4b2!"),
    (67, 6, 5, "0a2 0b1 0b3 1a0! 1a5 1b0 2a4 2b0! 2b3 3a1! 3b0! 3b2! 3b5! 4a0 4b3 5a0! 5a1 5a2! 5a4 5b1 5b2"),
    (68, 6, 2, "0a1 0a5 0b5 1a4! 1b3 1b4! 2a1 2a3 2b0 3a0! 3a2! 3b0 3b1! 4a1! 4a2! 4a3! 4b5 5a3! 5a4! 5b2 5b4!"),
    (69, 5, 3, "0a2! 0a3! 0b0! 0b4! 1a3 1b3 2a3 2a4 2b2 3a4! 3b0 4a1 4b0! 4b1!"),
    (136, 6, 2, "0a0 0b0 0b1 0b3! 0b4 1a1! 1a2 1b0! 1b1 1b2 2a3 2b3 3a5 3b2 3b4 4a1 4b0 4b5 5a4 5b1"),
]]
# An automaton, and its least automaton, whose tracker has more than 65 states.
NARROW = written("ab", 5, 3, "0a0 0b1 1a1 1b0! 1b2 2a1! 2b4 3a1 3b2 4a0 4b2 4b3")
WIDE = written("ab", 8, 0, "0a1 0b0 1a1 1b5 2a4 2b0 3a4 3b5 4a4 4b6 5a6 5b2 6a6 6b7 "
                           "7a0! 7a1! 7a2! 7a3! 7a4! 7a5! 7a6! 7a7! 7b3")
# Wishes, and how many states the trackers of their automata over ab have.
GREAT_TEXTS = [(64, "blocks:aaabb,abbab,baaab,babbb"), (65, "blocks:aaab,ab,babbbb,bbabba"),
               (65, "blocks:aaaaaa,abaa,babbb,bbaa"), (66, "blocks:aaa,ababbb,baaab,bbaabb"),
               (66, "blocks:aababa,ababb,abbbbb,baaa"), (67, "blocks:aabaa,abaaaa,baaaab"),
               (68, "blocks:abbaba,baaaa,bbaaba,bbabba")]
