"""Libraries: named wishes in an order, which are changed step by step, and their languages."""

from lastslip.errors import DuplicateName, InUse, InvalidAlphabet, InvalidCommand, InvalidLimit, InvalidName
from lastslip.errors import NothingLeft, TooMany, UnknownName
from lastslip.languages import Language
from lastslip.wishes import is_name, read_wish
from lastslip.words import check_letters, is_alphabet, is_number

# How many items a command has.
COMMANDS = {"put": 3, "change": 3, "drop": 2, "rename": 3}


def _is_command(value):
    """Whether any value is a command, with whatever names and texts."""
    return (isinstance(value, tuple) and len(value) > 0 and isinstance(value[0], str)
            and value[0] in COMMANDS and len(value) == COMMANDS[value[0]])


class Shelf:
    """What a library holds between two steps: wishes in their order, and the languages that are kept.

    The commands change a shelf, so that a step does them on a twin, which takes the place of the shelf
    when all are done.
    """

    def __init__(self, alphabet, order, wishes, languages):
        self.alphabet = alphabet
        self.order = list(order)
        self.wishes = dict(wishes)
        self.languages = dict(languages)

    def twin(self):
        """An independent shelf with the same wishes and languages."""
        return Shelf(self.alphabet, self.order, self.wishes, self.languages)

    def bare(self):
        """An independent shelf with the same wishes, without languages."""
        return Shelf(self.alphabet, self.order, self.wishes, {})

    def has(self, value):
        """Whether any value is the name of a wish."""
        return isinstance(value, str) and value in self.wishes

    def check_known(self, value):
        """Raises UnknownName unless any value is the name of a wish."""
        if not self.has(value):
            raise UnknownName(value)

    def _check_new(self, value):
        """Raises InvalidName or DuplicateName unless any value can be the name of one more wish."""
        if not is_name(value):
            raise InvalidName(value)
        if self.has(value):
            raise DuplicateName(value)

    def _read(self, text, names):
        """The wish with a text, which may use only some of the names."""
        wish = read_wish(text)
        check_letters(wish.needed(), self.alphabet)
        for name in wish.names():
            if name not in names:
                raise UnknownName(name)
        return wish

    def do(self, command, most):
        """Does a command; there may be so many wishes behind the command put."""
        word, name = command[:2]
        if word == "put":
            self._put(name, command[2], most)
        elif word == "change":
            self._change(name, command[2])
        elif word == "drop":
            self._drop(name)
        else:
            self._rename(name, command[2])

    def _put(self, name, text, most):
        """Adds a wish at the end."""
        self._check_new(name)
        if len(self.order) >= most:
            raise TooMany(most)
        self.wishes[name] = self._read(text, self.order)
        self.order.append(name)

    def _change(self, name, text):
        """Changes a wish at its place."""
        self.check_known(name)
        self.wishes[name] = self._read(text, self.order[:self.order.index(name)])
        touched = self.touched(name)
        self.languages = {late: self.languages[late] for late in self.languages if late not in touched}

    def _drop(self, name):
        """Takes a wish away that no other one uses."""
        self.check_known(name)
        users = self.users(name)
        if users:
            raise InUse(name, users[0])
        self.order.remove(name)
        del self.wishes[name]
        self.languages = {late: self.languages[late] for late in self.languages if late != name}

    def _rename(self, name, late):
        """Gives a wish another name, also in the wishes that use it."""
        self.check_known(name)
        self._check_new(late)
        users = self.users(name)
        for user in users:
            tokens = [late if token == name else token for token in self.wishes[user].tokens()]
            self.wishes[user] = read_wish(" ".join(tokens))
        self.order[self.order.index(name)] = late
        self.wishes[late] = self.wishes.pop(name)
        if name in self.languages:
            self.languages[late] = self.languages.pop(name)

    def users(self, name):
        """The names, in order, of the wishes that use a name directly."""
        return [late for late in self.order if name in self.wishes[late].names()]

    def touched(self, name):
        """The name, and all names, in order, of the wishes that use it directly or through others."""
        found = [name]
        for late in self.order:
            if any([used in found for used in self.wishes[late].names()]):
                found.append(late)
        return found

    def _needed(self, name):
        """The name, and all names that its wish uses directly or through others, in order."""
        found = {name: True}
        # The wishes that a wish uses stand before it.
        for late in self.order[::-1]:
            if late in found:
                found.update({used: True for used in self.wishes[late].names()})
        return [late for late in self.order if late in found]

    def automaton_of(self, name):
        """The automaton of the wish of a name."""
        table = {}
        for late in self._needed(name):
            table[late] = self.wishes[late].compiled(self.alphabet, table)
        return table[name]

    def fresh_languages(self, names):
        """The dict of the languages of those of the names whose languages are not kept."""
        return {name: Language(self.automaton_of(name)) for name in names if name not in self.languages}


class Library:
    """Named wishes over an alphabet, with the steps that changed them and with kept languages."""

    MOST = 12

    def __init__(self, alphabet, *, limit=6):
        if not is_alphabet(alphabet):
            raise InvalidAlphabet(alphabet)
        self.alphabet = alphabet
        self._shelf = Shelf(alphabet, [], {}, {})
        self.set_limit(limit)
        self._busy = False
        self._many = 0
        # The shelves ahead of each step that can be undone, and behind each undone one.
        self._past = []
        self._future = []

    @property
    def limit(self):
        """The most wishes for put."""
        return self._limit

    @limit.setter
    def limit(self, value):
        self.set_limit(value)

    def set_limit(self, value):
        """Assigns the limit."""
        if not is_number(value, max(1, len(self._shelf.order)), Library.MOST):
            raise InvalidLimit(value)
        self._limit = value

    @property
    def busy(self):
        """Whether commands are being done."""
        return self._busy

    def _behind(self, commands):
        """The shelf behind some commands."""
        shelf = self._shelf.twin()
        for at, command in enumerate(commands):
            if not _is_command(command):
                raise InvalidCommand(at)
            shelf.do(command, self._limit)
        return shelf

    def apply(self, *commands):
        """Does the commands in order, as one step."""
        self._busy = True
        try:
            shelf = self._behind(commands)
        finally:
            self._busy = False
        self._past.append(self._shelf)
        self._future = []
        self._shelf = shelf

    def put(self, name, text):
        """Adds a wish at the end."""
        self.apply(("put", name, text))

    def change(self, name, text):
        """Changes a wish at its place."""
        self.apply(("change", name, text))

    def drop(self, name):
        """Takes a wish away that no other one uses."""
        self.apply(("drop", name))

    def rename(self, name, late):
        """Gives a wish another name, also in the wishes that use it."""
        self.apply(("rename", name, late))

    def names(self):
        """The list of the names, in order."""
        return list(self._shelf.order)

    def wish_of(self, name):
        """The wish of a name."""
        self._shelf.check_known(name)
        return self._shelf.wishes[name]

    def users(self, name):
        """The list of the names, in order, of the wishes that use a name directly."""
        self._shelf.check_known(name)
        return self._shelf.users(name)

    def touched(self, name):
        """The list of a name and of all names of the wishes that use it directly or through others."""
        self._shelf.check_known(name)
        return self._shelf.touched(name)

    def automaton_of(self, name):
        """The automaton of the wish of a name."""
        self._shelf.check_known(name)
        return self._shelf.automaton_of(name)

    def _keep_languages(self, names):
        """Computes and keeps the languages of some names."""
        # Nothing is kept if one of them cannot be computed.
        fresh = self._shelf.fresh_languages(names)
        self._shelf.languages.update(fresh)
        self._many = self._many + len(fresh)

    def language_of(self, name):
        """The language of a name."""
        self._shelf.check_known(name)
        self._keep_languages([name])
        return self._shelf.languages[name]

    def kept(self):
        """The ascending list of the names whose languages are kept."""
        return sorted(list(self._shelf.languages))

    @property
    def computed(self):
        """How many languages were computed."""
        return self._many

    def same(self):
        """The tuples of the names, in order, whose wishes have the same language."""
        self._keep_languages(self._shelf.order)
        languages = self._shelf.languages
        groups = []
        for name in self._shelf.order:
            near = [group for group in groups if languages[group[0]] == languages[name]]
            if near:
                near[0].append(name)
            else:
                groups.append([name])
        return [tuple(group) for group in groups if len(group) > 1]

    def undo(self):
        """Takes the last step back."""
        if not self._past:
            raise NothingLeft()
        self._future.append(self._shelf)
        self._shelf = self._past.pop().bare()

    def redo(self):
        """Does the last undone step again."""
        if not self._future:
            raise NothingLeft()
        self._past.append(self._shelf)
        self._shelf = self._future.pop().bare()

    def history(self):
        """The numbers of the steps that can be undone and redone."""
        return len(self._past), len(self._future)

    def forget_steps(self):
        """Takes all steps away, so that none can be undone or redone."""
        self._past = []
        self._future = []

    def twin(self):
        """An independent library with the same wishes, limit, steps, kept languages and count."""
        late = Library(self.alphabet, limit=self._limit)
        late._shelf = self._shelf.twin()
        late._past = list(self._past)
        late._future = list(self._future)
        late._many = self._many
        return late

    def __contains__(self, x):
        return self._shelf.has(x)

    def __getitem__(self, at):
        return self.wish_of(at).text()

    def __setitem__(self, at, worth):
        if self._shelf.has(at):
            self.change(at, worth)
        else:
            self.put(at, worth)

    def __iter__(self):
        return iter(self._shelf.order)

    def __len__(self):
        return len(self._shelf.order)

    def __bool__(self):
        return True

    def __eq__(self, other):
        return (isinstance(other, Library) and self.alphabet == other.alphabet
                and self._shelf.order == other._shelf.order and self._shelf.wishes == other._shelf.wishes)

    def __repr__(self):
        return f"Library({len(self._shelf.order)} wishes)"
