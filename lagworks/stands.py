"""How works stand: named wirings and watches. Deeds change no stand but make another one of it."""

from lagworks.books import book_of
from lagworks.errors import NoWatch, NoWiring
from lagworks.parts import parts_of

NAMES = 8
WATCHES = 6


class Stand:
    """The wirings by names, (name, sheet) of each watch by its number, and the number that comes next."""

    def __init__(self, base):
        self.base = base
        self.laid = {}
        self.posts = {}
        self.following = 1
        # Books take long to find, so those that were asked for are kept.
        self.known = {}


def copy_of(stand):
    """A stand that may be changed without changing this one."""
    found = Stand(stand.base)
    found.laid = dict(stand.laid)
    found.posts = dict(stand.posts)
    found.following = stand.following
    found.known = dict(stand.known)
    return found


def put_in(part, laid):
    """A part with what it uses put in its place."""
    word = part[0]
    if word == "use":
        return put_in(laid[part[1]], laid)
    inner = [put_in(one, laid) for one in parts_of(part)]
    if not inner:
        return part
    return (word, tuple(inner)) if word in ("then", "beside") else (word, inner[0])


def wiring_in(stand, name):
    """The wiring of this name, as it was laid."""
    if name not in stand.laid:
        raise NoWiring("no wiring has this name", name)
    return stand.laid[name]


def whole_in(stand, name):
    """The wiring of this name with what it uses put in its place."""
    return put_in(wiring_in(stand, name), stand.laid)


def book_in(stand, name):
    """The book of the wiring of this name."""
    if name not in stand.known:
        stand.known[name] = book_of(whole_in(stand, name), prime=stand.base)
    return stand.known[name]


def post_in(stand, number):
    """(name, sheet) of the watch with this number."""
    if number not in stand.posts:
        raise NoWatch("no watch has this number", number)
    return stand.posts[number]


def watched_in(stand, number):
    """(book, sheet) of the watch with this number."""
    name, sheet = post_in(stand, number)
    return book_in(stand, name), sheet


def is_same(stand, other):
    """Whether two stands are alike, the order of laying too."""
    if stand.base != other.base or stand.following != other.following:
        return False
    return list(stand.laid.items()) == list(other.laid.items()) and stand.posts == other.posts
