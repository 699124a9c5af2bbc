"""Words, the atoms in them, and what a host can make of them (points [3] to [6])."""

from hermitcell.errors import NotValid

LEAST = -2147483648
GREATEST = 2147483647
MOST_CHARACTERS = 24
MOST_DEEP = 40
MOST_DEEP_HOST = 10
MOST_RANK = 40
MOST_RANK_HOST = 36
KINDS = {"token": 3, "challenge": 2, "seal": 4, "page": 4, "ticket": 6}

# The form of each part of a term, by the kind of the atom.
_FORMS = {
    "token": ("text", "tuple", "word"),
    "challenge": ("text", "number"),
    "seal": ("text", "number", "number", "hidden"),
    "page": ("text", "number", "number", "hidden"),
    "ticket": ("text", "number", "text", "tuple", "pages", "tuple"),
}


def is_number(value):
    """True if the value is an integer of point [3]; it may be anything."""
    return type(value) is int and LEAST <= value <= GREATEST


def is_text(value):
    """True if the value is a string of point [3]; it may be anything."""
    if type(value) is not str or len(value) > MOST_CHARACTERS:
        return False
    return all([" " <= character <= "~" for character in value])


def is_word(value):
    """True if the value is a word; it may be anything."""
    return _is_within(value, MOST_DEEP, MOST_RANK)


def is_host_word(value):
    """True if the value is a word of a host; it may be anything."""
    return _is_within(value, MOST_DEEP_HOST, MOST_RANK_HOST)


def is_monitor(value):
    """True if the value is a name of a monitor; it may be anything."""
    return is_text(value) and value != ""


def is_form(value, name, many):
    """True if the value is a tuple of so many parts that begins with the name; it may be anything."""
    # The kind is asked ahead of ==, as what may be anything can have an == of its own.
    return type(value) is tuple and len(value) == many and type(value[0]) is str and value[0] == name


def atoms_in(value):
    """The list of the atoms in a word, each once, in the order of their first places."""
    found = []
    for atom in _places_of_atoms(value):
        if atom not in found:
            found.append(atom)
    return found


def rank_of(word):
    """The greatest rank of the atoms in a word, 0 if there is none."""
    return max([atom.rank for atom in _places_of_atoms(word)], default=0)


def strip(word):
    """The word without the words of all seals and pages in it."""
    return with_atoms(word, lambda atom: atom.stripped())


def with_atoms(value, change):
    """The value with change(atom) in the place of each atom in its tuples; all else stays; it may be anything."""
    # A stack in the place of recursion: what is no word can be nested without end.
    todo = [(value, False)]
    rows = [[]]
    while todo:
        part, is_at_its_end = todo.pop()
        if is_at_its_end:
            row = tuple(rows.pop())
            rows[-1].append(row)
        elif type(part) is tuple:
            rows.append([])
            todo.append((part, True))
            todo.extend([(each, False) for each in part[::-1]])
        else:
            rows[-1].append(change(part) if type(part) is Atom else part)
    return rows[0][0]


class Atom:
    """A term that only monitors and verifiers can make and look into."""

    def __init__(self, kind, term):
        if not _is_term(kind, term):
            raise NotValid()
        rank = _rank_of_atom(kind, term)
        if rank > _most_rank(kind):
            raise NotValid()
        self.kind = kind
        self.term = term
        self.rank = rank
        self._stripped = None

    def __eq__(self, other):
        if not isinstance(other, Atom):
            return False
        return self.kind == other.kind and _are_equal(self.term, other.term)

    def is_same(self, other):
        """True if the other one is this very object."""
        return self is other

    def stripped(self):
        """The atom without the words of all seals and pages in it."""
        # It is worked out once: tokens can hold the same token in many places, and this again.
        if self._stripped is None:
            self._stripped = _strip_atom(self)
        return self._stripped


class Knowledge:
    """The atoms that a host has."""

    def __init__(self):
        self._atoms = []

    def take(self, word):
        """It has the atoms in the word from now on."""
        for atom in _places_of_atoms(word):
            if atom not in self._atoms:
                self._atoms.append(atom)

    def can_make(self, value):
        """True if the value is a word that the host can make; it may be anything."""
        return is_word(value) and all([atom in self._atoms for atom in _places_of_atoms(value)])

    def atoms(self):
        """The list of the atoms that it has, in the order in which it took them."""
        return list(self._atoms)

    def copy(self):
        """Another one that has the same."""
        other = Knowledge()
        other._atoms = list(self._atoms)
        return other


def _is_within(value, most_deep, most_rank):
    """True if the value is a word that is nested at most so deep, whose atoms have at most this rank."""
    todo = [(value, 0)]
    while todo:
        part, deep = todo.pop()
        if type(part) is tuple:
            if deep == most_deep:
                return False
            todo.extend([(each, deep + 1) for each in part])
        elif type(part) is Atom:
            if part.rank > most_rank:
                return False
        elif part is not None and not is_number(part) and not is_text(part):
            return False
    return True


def _places_of_atoms(value):
    """The list of the atoms in a word, in the order of their places, each as often as it occurs."""
    found = []
    todo = [value]
    while todo:
        part = todo.pop()
        if type(part) is tuple:
            todo.extend(part[::-1])
        elif type(part) is Atom:
            found.append(part)
    return found


def _are_equal(ones, others):
    """True if two tuples of as many words are equal."""
    # A stack in the place of recursion: what seals hide can be nested without end.
    left = list(ones)
    right = list(others)
    while left:
        one = left.pop()
        other = right.pop()
        if type(one) is tuple and type(other) is tuple:
            if len(one) != len(other):
                return False
            left.extend(one)
            right.extend(other)
        elif type(one) is Atom and type(other) is Atom:
            if one.is_same(other):
                continue
            if one.kind != other.kind:
                return False
            left.extend(one.term)
            right.extend(other.term)
        elif one != other:
            return False
    return True


def _is_term(kind, term):
    """True if the kind is one of an atom, and the term has its form; both may be anything."""
    if type(kind) is not str or kind not in _FORMS or type(term) is not tuple:
        return False
    forms = _FORMS[kind]
    if len(term) != len(forms):
        return False
    return all([is_word(part) and _has_form(part, form) for part, form in zip(term, forms)])


def _has_form(part, form):
    """True if a word has the form of a part of a term."""
    if form == "text":
        return type(part) is str
    if form == "number":
        return type(part) is int
    if form == "tuple":
        return type(part) is tuple
    if form == "hidden":
        return part is None or type(part) is tuple and len(part) == 4
    if form == "pages":
        return type(part) is tuple and len(part) == 8
    return True


def _rank_of_atom(kind, term):
    """The rank of an atom with this term."""
    if kind in ("seal", "page"):
        return 1
    return rank_of(term) + 1


def _most_rank(kind):
    """The greatest rank of an atom of the kind."""
    # A realm can hold a token, so its rank is that of words of hosts.
    return MOST_RANK_HOST if kind == "token" else MOST_RANK


def _strip_atom(atom):
    """An atom without the words of all seals and pages in it; the very atom if there are none."""
    if atom.kind in ("seal", "page"):
        return atom if atom.term[3] is None else Atom(atom.kind, atom.term[:3] + (None,))
    if all([each.is_same(each.stripped()) for each in _places_of_atoms(atom.term)]):
        return atom
    return Atom(atom.kind, strip(atom.term))
