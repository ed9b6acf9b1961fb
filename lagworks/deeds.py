"""Deeds: each makes of a stand another one and tells something; what is refused leaves the stand as it is."""

from lagworks.books import width_of
from lagworks.errors import BadDeed, BadName, BadWiring, Full, Held, NoWiring, Taken, Unshaped, Used
from lagworks.parts import boxes_of, is_name
from lagworks.stands import NAMES, WATCHES, book_in, copy_of, post_in, put_in, watched_in, whole_in, wiring_in
from lagworks.watching import check_sign
from lagworks.wirings import ends_of


def uses_of(wiring):
    """The names that a wiring uses, from left to right; what is no wiring by itself is refused."""
    return [box[1] for box in boxes_of(wiring) if box[0] == "use"]


def check_fitting(whole):
    """Refuse a wiring, with what it uses put in, that is none by its counts or its ends."""
    boxes_of(whole)
    ends_of(whole)


def check_laid(wiring, ahead):
    """Refuse a wiring that is none behind these named ones."""
    for used in uses_of(wiring):
        if used not in ahead:
            raise NoWiring("a name is used that is not laid ahead", used)
    check_fitting(put_in(wiring, ahead))


def lay(stand, name, wiring):
    """One more wiring."""
    if not is_name(name):
        raise BadName("a name has 1 to 8 small letters")
    if name in stand.laid:
        raise Taken("the name has been given already")
    check_laid(wiring, stand.laid)
    if len(stand.laid) >= NAMES:
        raise Full("there are at most 8 names")
    found = copy_of(stand)
    found.laid[name] = wiring
    return found, None


def is_fitting(whole):
    """Whether a wiring, with what it uses put in, is one."""
    try:
        check_fitting(whole)
    except (BadWiring, Unshaped):
        return False
    return True


def is_let(stand, number):
    """Whether the sheet of a watch is let as things stand now."""
    name, sheet = stand.posts[number]
    # A sheet without signs is let whatever ends there are.
    if not sheet:
        return True
    book = book_in(stand, name)
    return len(sheet[0]) == width_of(book) and book.lets(sheet)


def check_held(stand, later):
    """Refuse a changed stand where one of the wirings laid later, or a watch, would not be as it must."""
    for name in later:
        if not is_fitting(whole_in(stand, name)):
            raise Held("a wiring laid later would be none", name)
    for number in stand.posts:
        if not is_let(stand, number):
            raise Held("the sheet of a watch would not be let", number)


def change(stand, name, wiring):
    """Another wiring by a name that was laid."""
    wiring_in(stand, name)
    order = list(stand.laid)
    ahead = order[:order.index(name)]
    check_laid(wiring, {other: stand.laid[other] for other in ahead})
    found = copy_of(stand)
    found.laid[name] = wiring
    found.known = {other: stand.known[other] for other in ahead if other in stand.known}
    check_held(found, order[len(ahead) + 1:])
    return found, None


def drop(stand, name):
    """One wiring less."""
    wiring_in(stand, name)
    users = [other for other in stand.laid if name in uses_of(stand.laid[other])]
    users.extend([number for number in stand.posts if stand.posts[number][0] == name])
    if users:
        raise Used("the wiring is used", users[0])
    found = copy_of(stand)
    del found.laid[name]
    # Another wiring may be laid by this name.
    found.known.pop(name, None)
    return found, None


def watch(stand, name):
    """One more watch; its number is told."""
    wiring_in(stand, name)
    if len(stand.posts) >= WATCHES:
        raise Full("there are at most 6 watches")
    found = copy_of(stand)
    found.posts[stand.following] = (name, ())
    found.following = stand.following + 1
    return found, stand.following


def feed(stand, number, sign):
    """One more sign on the sheet of a watch."""
    book, sheet = watched_in(stand, number)
    check_sign(book, sheet, sign)
    found = copy_of(stand)
    found.posts[number] = (stand.posts[number][0], sheet + (sign,))
    return found, None


def close(stand, number):
    """One watch less."""
    post_in(stand, number)
    found = copy_of(stand)
    del found.posts[number]
    return found, None


def many(stand, deeds):
    """Deeds one after the other; a list of what each tells is told."""
    if not isinstance(deeds, (list, tuple)):
        raise BadDeed("many deeds are a list of deeds")
    told = []
    for deed in deeds:
        stand, answer = done(stand, deed)
        told.append(answer)
    return stand, told


DEEDS = {"lay": lay, "change": change, "drop": drop, "watch": watch, "feed": feed, "close": close, "many": many}
THINGS = {"lay": 2, "change": 2, "drop": 1, "watch": 1, "feed": 2, "close": 1, "many": 1}


def done(stand, deed):
    """(stand, told): how all stands behind a deed, and what it tells."""
    if not isinstance(deed, tuple) or not deed or not isinstance(deed[0], str):
        raise BadDeed("a deed is a tuple that begins with its word")
    word, *things = deed
    if word not in DEEDS or len(things) != THINGS[word]:
        raise BadDeed("there is no such deed of so many things")
    action = DEEDS[word]
    return action(stand, *things)


def as_tuples(deed):
    """A deed that could be done, its lists of deeds as tuples."""
    if deed[0] != "many":
        return deed
    return "many", tuple([as_tuples(one) for one in deed[1]])
