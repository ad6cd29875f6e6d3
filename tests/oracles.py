"""What the document says of states, hands and certificates, written once more in a slow and plain way."""

from lastslip.automata import Automaton
from samples import read_by, real_tracker, really_accepts, strings


def changed(automaton, transitions, initial=None):
    """The automaton with other transitions."""
    start = automaton.initial if initial is None else initial
    return Automaton(automaton.alphabet, automaton.size, transitions, initial=start)


def real_normal(automaton):
    """The normal form: a safe transition stays safe if safe transitions lead back."""
    leads = {state: {state} for state in range(automaton.size)}
    for _ in range(automaton.size):
        for source, _, target, kind in automaton.transitions():
            if kind == "safe":
                for state in leads:
                    if source in leads[state]:
                        leads[state] |= leads[target]
    return changed(automaton, [(source, letter, target, kind if source in leads[target] else "slip")
                               for source, letter, target, kind in automaton.transitions()])


def real_safe_words(automaton, state, most):
    """The safe words of a state with at most so many letters, in their order."""
    plain = real_normal(automaton)
    return [word for word in strings(automaton.alphabet, 0, most) if read_by(plain, {state}, word, ("safe",))]


def real_components(automaton):
    """The safe components, as ascending lists."""
    leads = [{state} for state in range(automaton.size)]
    for _ in range(automaton.size):
        for source, _, target, kind in automaton.transitions():
            if kind == "safe":
                leads = [found | leads[target] if source in found else found for found in leads]
    return sorted({tuple(late for late in leads[state] if state in leads[late]) for state in range(automaton.size)})


def accepted_lassos(automaton, state, lassos):
    """Which lassos the automaton accepts from a state."""
    begun = changed(automaton, automaton.transitions(), state)
    return [really_accepts(begun, prefix, loop) for prefix, loop in lassos]


def really_harmless(automaton):
    """Whether a hand wins against each opponent, by sets of positions that shrink and grow."""
    _, rows = real_tracker(automaton)
    size = automaton.size
    places = [(state, tracked) for state in range(size) for tracked in range(len(rows))]
    moves = {(state, letter): [(late, kind) for source, sign, late, kind in automaton.transitions()
                               if (source, sign) == (state, letter)]
             for state in range(size) for letter in automaton.alphabet}

    def good(place, kept, grown, calm):
        for at, letter in enumerate(automaton.alphabet):
            late, word = rows[place[1]][at]
            if not any((target, late) in (kept if word == "slip" else calm if kind == "safe" else grown)
                       for target, kind in moves[place[0], letter]):
                return False
        return True

    kept = set(places)
    while True:
        grown = set()
        while True:
            calm = set(kept)
            while True:
                fewer = {place for place in calm if good(place, kept, grown, calm)}
                if fewer == calm:
                    break
                calm = fewer
            if calm == grown:
                break
            grown = calm
        if grown == kept:
            return (automaton.initial, 0) in kept
        kept = grown


def _number(value, least, most):
    return type(value) is int and least <= value <= most


def _is_tracker(tracker, automaton):
    if type(tracker) is not Automaton or tracker.alphabet != automaton.alphabet:
        return False
    return len(tracker.transitions()) == tracker.size * len(tracker.alphabet)


def _good_rows(rows, automaton, tracker, ends):
    """Whether all rows have positions and an end that is as said."""
    for row in rows:
        if len(row) != 2 + len(ends) or not _number(row[0], 0, automaton.size - 1):
            return False
        if not _number(row[1], 0, tracker.size - 1):
            return False
        for value, end in zip(row[2:], ends):
            if end == "letter":
                if type(value) is not str or len(value) != 1 or value not in automaton.alphabet:
                    return False
            elif not _number(value, 0, automaton.size - 1 if end == "state" else 10 ** 18):
                return False
    return True


def _words_within(one, other, lassos):
    return not any(really_accepts(one, *lasso) and not really_accepts(other, *lasso) for lasso in lassos)


def harmless_holds(automaton, tracker, moves, ranks, lassos):
    """Whether a Harmless of these holds, as far as some lassos tell."""
    if not _is_tracker(tracker, automaton) or not _good_rows(moves, automaton, tracker, ["letter", "state"]):
        return False
    if not _good_rows(ranks, automaton, tracker, ["number"]):
        return False
    if len({row[:3] for row in moves}) < len(moves) or len({row[:2] for row in ranks}) < len(ranks):
        return False
    heights = {row[:2]: row[2] for row in ranks}
    if (automaton.initial, tracker.initial) not in heights:
        return False
    for state, tracked in heights:
        for letter in automaton.alphabet:
            targets = [row[3] for row in moves if row[:3] == (state, tracked, letter)]
            kinds = [kind for source, sign, target, kind in automaton.transitions()
                     if (source, sign) == (state, letter) and [target] == targets]
            late, word = [(target, kind) for source, sign, target, kind in tracker.transitions()
                          if (source, sign) == (tracked, letter)][0]
            if not kinds or (targets[0], late) not in heights:
                return False
            fall = heights[state, tracked] - heights[targets[0], late]
            if word == "safe" and fall < (1 if kinds == ["slip"] else 0):
                return False
    return _words_within(automaton, tracker, lassos)


def harmful_holds(automaton, tracker, letters, ranks, lassos):
    """Whether a Harmful of these holds, as far as some lassos tell."""
    if not _is_tracker(tracker, automaton) or not _good_rows(letters, automaton, tracker, ["letter"]):
        return False
    if not _good_rows(ranks, automaton, tracker, ["number", "number"]):
        return False
    if len({row[:2] for row in letters}) < len(letters) or len({row[:2] for row in ranks}) < len(ranks):
        return False
    heights = {row[:2]: row[2:] for row in ranks}
    if (automaton.initial, tracker.initial) not in heights:
        return False
    for state, tracked in heights:
        chosen = [row[2] for row in letters if row[:2] == (state, tracked)]
        if not chosen:
            return False
        late, word = [(target, kind) for source, sign, target, kind in tracker.transitions()
                      if (source, sign) == (tracked, chosen[0])][0]
        for source, sign, target, kind in automaton.transitions():
            if (source, sign) != (state, chosen[0]):
                continue
            if (target, late) not in heights:
                return False
            fall, down = [before - behind for before, behind in
                          zip(heights[state, tracked], heights[target, late])]
            if fall < (1 if word == "slip" else 0) or (fall == 0 and kind == "safe" and down < 1):
                return False
    return _words_within(tracker, automaton, lassos)


def _is_sequence(words, loop):
    """Whether some end of the loop, repeated for ever, is a sequence of the words."""
    many = len(loop)
    endless = loop * 8
    leads = {at: {(at + len(word)) % many for word in words if endless[at:at + len(word)] == word}
             for at in range(many)}
    lasting = set(leads)
    for _ in leads:
        lasting = {at for at in lasting if leads[at] & lasting}
    return bool(lasting)


def wish_has(text, prefix, loop, table=None):
    """Whether the set of a wish has the infinite word of a prefix and a loop; the table has texts of names."""
    stack = []
    for token in text.split(" "):
        form, _, rest = token.partition(":")
        if token in ("both", "either"):
            other, one = stack.pop(), stack.pop()
            join = {"both": all, "either": any}[token]
            stack.append(lambda start, circle, parts=(one, other), join=join:
                         join([part(start, circle) for part in parts]))
        elif form == token:
            stack.append(lambda start, circle, name=token: wish_has(table[name], start, circle, table))
        elif form == "never":
            stack.append(lambda start, circle, words=rest.split(","):
                         not any(word in circle * (len(word) + 1) for word in words))
        elif form == "blocks":
            stack.append(lambda start, circle, words=rest.split(","): _is_sequence(words, circle))
        else:
            stack.append(lambda start, circle, word=rest, part=stack.pop():
                         _goes_on(start, circle, word, part))
    return stack.pop()(prefix, loop)


def _goes_on(start, circle, word, part):
    """Whether an infinite word begins with a word, and its rest is in the set of a part."""
    while len(start) < len(word):
        start += circle
    return start.startswith(word) and part(start[len(word):], circle)


def real_never(words, alphabet):
    """The automaton of `never`, by the words of the document."""
    states = sorted({word[:many] for word in words for many in range(len(word))})
    rows = []
    for source, state in enumerate(states):
        for letter in alphabet:
            ends = [late for late in states if (state + letter).endswith(late)]
            kind = "slip" if any((state + letter).endswith(word) for word in words) else "safe"
            rows.append((source, letter, states.index(max(ends, key=len)), kind))
    return Automaton(alphabet, len(states), rows)


def real_blocks(words, alphabet):
    """The automaton of `blocks`, by the words of the document."""
    states = sorted({word[:many] for word in words for many in range(len(word))})
    rows = []
    for source, state in enumerate(states):
        for letter in alphabet:
            if state + letter in states:
                rows.append((source, letter, states.index(state + letter), "safe"))
            rows.append((source, letter, 0, "safe" if state + letter in words else "slip"))
    return Automaton(alphabet, len(states), rows)
