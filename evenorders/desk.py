"""A desk that keeps webs under names, and works by lines."""

from evenorders.asks import fewest_asks
from evenorders.callings import calling
from evenorders.errors import NoKept, NoLine, NothingDone
from evenorders.levels import levels
from evenorders.listing import sorts
from evenorders.making import with_before
from evenorders.orders import count, order_at
from evenorders.reading import is_numeral, read_web
from evenorders.terms import term_of
from evenorders.texts import term_text, web_text
from evenorders.tickets import tickets
from evenorders.ways import WAYS, chance, even

MOST_LETTERS = 8
# For each first word what must stand behind it.
FORMS = {
    "web": ("name", "text"), "before": ("name", "number", "number"), "drop": ("name",),
    "names": (), "undo": (), "show": ("name",), "count": ("name",), "order": ("name", "number"),
    "chance": ("name", "way", "order"), "even": ("name", "way"), "levels": ("name",),
    "calling": ("name",), "term": ("name",), "tickets": ("name",), "asks": ("name",),
    "sorts": ("name",),
}


class Desk:
    """Webs by their names, and what is needed to take lines back."""

    def __init__(self):
        self.kept = {}
        # For each line that can be taken back its name, and what was kept under it.
        self.done = []

    def tell(self, line):
        """Do a line, and return what it tells."""
        word, *words = _words_of(line)
        if word == "undo":
            return _undo(self)
        if word == "names":
            return " ".join(sorted(self.kept)) or "none"
        if word == "web":
            return _keep(self, words[0], read_web(words[1].replace("|", "\n")))
        if words[0] not in self.kept:
            raise NoKept(words[0])
        web = self.kept[words[0]]
        if word == "before":
            return _keep(self, words[0], with_before(web, int(words[1]), int(words[2])))
        if word == "drop":
            return _keep(self, words[0], None)
        return _answer(web, word, words[1:])

    def undoable(self):
        """How many lines can be taken back."""
        return len(self.done)


def _words_of(line):
    """The words of a line; a text is one."""
    if not isinstance(line, str) or "\n" in line:
        raise NoLine()
    words = line.split(" ")
    if words[0] == "web":
        words = line.split(" ", 2)
    kinds = FORMS.get(words[0])
    if kinds is None or len(words) != len(kinds) + 1:
        raise NoLine()
    if not all([_is_of_kind(word, kind) for word, kind in zip(words[1:], kinds)]):
        raise NoLine()
    return words


def _is_of_kind(word, kind):
    if kind == "name":
        return 1 <= len(word) <= MOST_LETTERS and all(["a" <= sign <= "z" for sign in word])
    if kind == "number":
        return is_numeral(word)
    if kind == "way":
        return word in WAYS
    if kind == "order":
        return all([is_numeral(part) for part in word.split(",")])
    return word != ""


def _keep(desk, name, web):
    """Keep a web under a name, nothing if there is none, such that it can be taken back."""
    desk.done.append((name, desk.kept.get(name)))
    _put(desk, name, web)
    return "ok"


def _put(desk, name, web):
    if web is None:
        del desk.kept[name]
    else:
        desk.kept[name] = web


def _undo(desk):
    if not desk.done:
        raise NothingDone()
    name, web = desk.done.pop()
    _put(desk, name, web)
    return "ok"


def _answer(web, word, words):
    """What a line tells of a web, by its first word and those behind the name."""
    if word == "order":
        return _with_commas(order_at(web, int(words[0])))
    if word == "chance":
        top, bottom = chance(web, words[0], tuple([int(name) for name in words[1].split(",")]))
        return f"{top}/{bottom}"
    if word == "even":
        return "yes" if even(web, words[0]) else "no"
    action = ANSWERS[word]
    return action(web)


def _with_commas(numbers):
    return ",".join([str(number) for number in numbers])


def _show(web):
    return web_text(web).replace("\n", "|")


def _count(web):
    return str(count(web))


def _levels(web):
    found = levels(web)
    return "none" if found is None else " ".join([_with_commas(level) for level in found])


def _calling(web):
    found = calling(web)
    return "none" if found is None else _with_commas(found)


def _term(web):
    found = term_of(web)
    return "none" if found is None else term_text(found)


def _tickets(web):
    found = tickets(web)
    return "none" if found is None else _with_commas(found)


def _asks(web):
    return str(fewest_asks(web))


def _sorts(web):
    return ",".join(sorts(web))


ANSWERS = {
    "show": _show, "count": _count, "levels": _levels, "calling": _calling, "term": _term,
    "tickets": _tickets, "asks": _asks, "sorts": _sorts,
}
