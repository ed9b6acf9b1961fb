"""What several test files need: drawn lag sums, plain reckoning to compare with, and refusals."""

import itertools
import random

from lagworks.books import Book
from lagworks.errors import LagError, WorksError
from lagworks.works import Works

ALL_PRIMES = [n for n in range(2, 98) if all(n % k for k in range(2, n))]

# 0, 1, 4, 97 + 4 and the like, below nought, of twenty figures (some of them primes elsewhere).
NO_PRIMES = [0, 1, 4, 6, 9, 91, 95, 96, 98, 99, 100, 97 + 4, 103, -1, -2, -3, -97,
             99999999999999999999, -99999999999999999999, 10 ** 19, -(10 ** 19),
             18446744073709551557, 10000000000000000051]


def cut(numbers, prime):
    """Numbers by places as a lag sum."""
    found = [n % prime for n in numbers]
    while found and found[-1] == 0:
        found.pop()
    return tuple(found)


def plain_plus(one, other, prime):
    long = max(len(one), len(other))
    return cut([(one + (0,) * long)[k] + (other + (0,) * long)[k] for k in range(long)], prime)


def plain_minus(one, other, prime):
    return plain_plus(one, tuple(-n for n in other), prime)


def plain_times(one, other, prime):
    return cut([sum(one[i] * other[k - i] for i in range(len(one)) if 0 <= k - i < len(other))
                for k in range(len(one) + len(other))], prime)


def is_lag_sum(found, prime):
    """Whether what is told is a tuple of residues without a last 0."""
    return (type(found) is tuple and all(type(n) is int and 0 <= n < prime for n in found)
            and (not found or found[-1] != 0))


def divides(one, other, prime):
    """Whether other, by plain long division, is a multiple of one (not nought)."""
    unit = next(k for k in range(prime) if k * one[-1] % prime == 1)
    while len(other) >= len(one):
        top = (0,) * (len(other) - len(one)) + (other[-1] * unit % prime,)
        other = plain_minus(other, plain_times(top, one, prime), prime)
    return other == ()


def drawn_sum(draw, prime, most=12):
    """A lag sum of at most so many residues; nought, full length and gaps are not rare."""
    long = draw.choice([0, 1, 2, most, draw.randint(0, most)])
    gaps = draw.random() < 0.3
    return cut([0 if gaps and draw.random() < 0.6 else draw.randrange(prime) for k in range(long)], prime)


def drawn_pairs(seed, many, most=12):
    """(prime, one, other), drawn the same each time."""
    draw = random.Random(seed)
    for k in range(many):
        prime = draw.choice([2, 3, 5, 7, 97, draw.choice(ALL_PRIMES)])
        yield prime, drawn_sum(draw, prime, most), drawn_sum(draw, prime, most)


def all_sums(prime, most):
    """All lag sums of at most so many residues."""
    found = [()]
    rising = [()]
    for k in range(most):
        rising = [one + (n,) for one in rising for n in range(prime)]
        found.extend(one for one in rising if one[-1] != 0)
    return found


def refused(test, kind, action, *handed, **named):
    """Asserts that just this error comes, with its word, and tells it."""
    with test.assertRaises((LagError, WorksError)) as caught:
        action(*handed, **named)
    test.assertIs(type(caught.exception), kind, (handed, named))
    test.assertEqual(caught.exception.word, kind.__name__)
    return caught.exception


def drawn_row(draw, prime, width, most=4):
    """An equation of this width; nought sums are not rare."""
    return tuple(() if draw.random() < 0.2 else drawn_sum(draw, prime, most) for end in range(width))


def drawn_tables(seed, many, most=4):
    """(draw, prime, width, rows): tables of one to four ends and none to four equations."""
    draw = random.Random(seed)
    for k in range(many):
        prime, width = draw.choice([2, 2, 3, 5, 97]), draw.randint(1, 4)
        rows = [drawn_row(draw, prime, width, most) for row in range(draw.randint(0, 4))]
        yield draw, prime, width, rows


def no_row(width):
    """The equation that is nought everywhere."""
    return ((),) * width


def added_rows(one, other, prime):
    return tuple(plain_plus(a, b, prime) for a, b in zip(one, other))


def multiplied(row, by, prime):
    return tuple(plain_times(one, by, prime) for one in row)


def multiplied_out(sums, rows, width, prime):
    """What comes when each equation is multiplied by its lag sum and all are added."""
    found = no_row(width)
    for by, row in zip(sums, rows, strict=True):
        found = added_rows(found, multiplied(row, by, prime), prime)
    return found


def head_and_height(row):
    """(head, height) of an equation that is not nought everywhere."""
    top = max(len(one) for one in row) - 1
    return [end for end, one in enumerate(row) if len(one) - 1 == top][-1], top


def check_told_form(test, found, width, prime):
    """Asserts each point of a told form, and that it is a list of equations."""
    test.assertIs(type(found), list)
    for row in found:
        test.assertIs(type(row), tuple)
        test.assertEqual(len(row), width)
        test.assertTrue(all(is_lag_sum(one, prime) for one in row), row)
        test.assertNotEqual(row, no_row(width))
    heads = [head_and_height(row)[0] for row in found]
    test.assertEqual(heads, sorted(set(heads)))
    for row, head in zip(found, heads):
        test.assertEqual(row[head][-1], 1)
        for other in found:
            if other is not row:
                test.assertLess(len(other[head]), len(row[head]), found)


def then(*parts):
    return "then", parts


def beside(*parts):
    return "beside", parts


def turned(part):
    return "turned", part


def ring(part):
    return "ring", part


WIRE, LAG = ("wire",), ("lag",)
WORDS = ["wire", "lag", "weigh", "copy", "sum", "mix", "shuffle"]


def drawn_box(draw, words):
    """A box with one of these words."""
    word = draw.choice(words)
    if word in ("wire", "lag"):
        return (word,)
    if word in ("weigh", "copy", "sum"):
        return word, draw.randint(0, 96 if word == "weigh" else 4)
    if word == "use":
        return word, "".join(draw.choice("abcxyz") for k in range(draw.randint(1, 8)))
    many = draw.randint(1, 4)
    if word == "shuffle":
        return word, tuple(draw.sample(range(many), many))
    return word, tuple(tuple(draw.randint(0, 96) for k in range(many)) for row in range(draw.randint(1, 4)))


def drawn_wiring(draw, deep, words=WORDS):
    """A wiring at most so deep, whether its ends fit or not; few boxes."""
    kind = draw.choice(["box", "then", "beside", "turned", "ring"]) if deep > 1 else "box"
    if kind == "box":
        return drawn_box(draw, words)
    if kind in ("turned", "ring"):
        return kind, drawn_wiring(draw, deep - 1, words)
    return kind, tuple(drawn_wiring(draw, deep - 1, words) for k in range(draw.choice([1, 1, 2, 2, 3])))


def plain_boxes(wiring):
    """All boxes of a wiring."""
    if wiring[0] in ("turned", "ring"):
        return plain_boxes(wiring[1])
    if wiring[0] in ("then", "beside"):
        return [box for part in wiring[1] for box in plain_boxes(part)]
    return [wiring]


def within_counts(wiring):
    """Whether a wiring of small depth has at most 60 boxes and 8 lags."""
    return len(plain_boxes(wiring)) <= 60 and plain_boxes(wiring).count(("lag",)) <= 8


def nested(word, many, part):
    """The part within so many of a joining word."""
    for k in range(many):
        part = (word, (part,)) if word in ("then", "beside") else (word, part)
    return part


def wrong_wirings():
    """Tuples of texts, numbers and such tuples that are no wirings, whether with a use or not, and why."""
    big, wire = 99999999999999999999, ("wire",)
    found = [(), ("",), ((),), (1,), (-big,), ("wires",), ("Wire",), (" wire",), ("wire\n",), ("x" * 4000,), (wire,),
             (wire, wire), (("wire",), 1), (((((((((("wire",),),),),),),),),),), ("0",), (0, "wire")]
    for word in ("wire", "lag"):
        found += [(word, 1), (word, word), (word, ()), (word, wire), (word, 0, 0), (word, "")]
    for word, top in (("weigh", 96), ("copy", 4), ("sum", 4)):
        found += [(word,), (word, 1, 1), (word, "1"), (word, ""), (word, ()), (word, (1,)), (word, ((1,),)),
                  (word, wire), (word, top + 1), (word, -1), (word, big), (word, -big), (word, 0, ())]
    found += [("mix",), ("mix", ((1,),), ((1,),)), ("mix", 1), ("mix", "1"), ("mix", ""), ("mix", ()), ("mix", ((),)),
              ("mix", (1,)), ("mix", ("1",)), ("mix", (("1",),)), ("mix", (((1,),),)), ("mix", ((1,), 1)),
              ("mix", (1, (1,))), ("mix", ((1,), "1")), ("mix", ((1, 2), (1,))), ("mix", ((1,), (1, 2))),
              ("mix", ((1,), ())), ("mix", ((), (1,))), ("mix", ((97,),)), ("mix", ((-1,),)), ("mix", ((big,),)),
              ("mix", ((0, -big),)), ("mix", ((1, 2), (3, 97))), ("mix", ((1, 2), (3, "4"))), ("mix", ((1, 2), (3, ()))),
              ("mix", ((1,),) * 13), ("mix", ((1,) * 13,)), ("mix", ((1,) * 13,) * 13), ("mix", ((0,) * 60,) * 60),
              ("mix", wire), ("mix", ((1, 1),) * 11 + ((1,),))]
    found += [("shuffle",), ("shuffle", (0,), (0,)), ("shuffle", 0), ("shuffle", "0"), ("shuffle", ""), ("shuffle", ()),
              ("shuffle", ("0",)), ("shuffle", ((0,),)), ("shuffle", (1,)), ("shuffle", (0, 0)), ("shuffle", (1, 1)),
              ("shuffle", (0, 2)), ("shuffle", (1, 2)), ("shuffle", (-1, 0)), ("shuffle", (0, big)),
              ("shuffle", (-big,)), ("shuffle", (0, 1, "2")), ("shuffle", (0, 1, ())), ("shuffle", tuple(range(13))),
              ("shuffle", tuple(range(60))), ("shuffle", tuple(range(11)) + (10,)), ("shuffle", wire)]
    # True and False are no numbers.
    found += [("weigh", True), ("copy", False), ("sum", True), ("mix", ((True,),)), ("shuffle", (False,))]
    for word in ("then", "beside"):
        found += [(word,), (word, ()), (word, (wire,), (wire,)), (word, wire), (word, 1), (word, "wire"), (word, ""),
                  (word, ("wire", "lag")), (word, (1,)), (word, ((),)), (word, (wire, ())), (word, (wire, 1)),
                  (word, (wire, "wire")), (word, ((wire,),)), (word, (wire,) * 13), (word, (wire,) * 60),
                  (word, (wire, ("no",))), (word, (("copy", 5), wire)), (word, wire, wire)]
    for word in ("turned", "ring"):
        found += [(word,), (word, wire, wire), (word, ()), (word, "wire"), (word, 1), (word, ""), (word, (wire,)),
                  (word, ("no",)), (word, ("copy", -1)), (word, ("wire", 1))]
    for name in ("", "A", "aB", "abcdefghi", "a b", "a1", "a-b", "a\n", "\n", " ", "a" * 4000, 1, 0, -big, (), ("a",)):
        found.append(("use", name))
    found += [("use",), ("use", "a", "b"), ("use", "a", ()), ("uses", "a"), ("Use", "a")]
    return found + too_great_wirings()


def too_great_wirings():
    """Wirings but for their depth, or how many boxes or lags they have."""
    wire, lag = ("wire",), ("lag",)
    found = [nested(word, many, wire) for word in ("turned", "ring", "then", "beside") for many in (16, 17, 19)]
    found += [nested("turned", 39, wire), nested("then", 19, lag), ("then", (wire, nested("beside", 15, wire)))]
    hollow = ()
    for k in range(39):
        hollow = (hollow,)
    found += [hollow, ("turned", hollow[0])]
    five = ("beside", (wire,) * 5)
    found += [("then", (five,) * 11 + (("beside", (wire,) * 6),)), ("beside", (five,) * 12 + (wire,)),
              ("then", (("then", (wire,) * 12),) * 6), ("beside", (("then", (five,) * 12), wire))]
    found += [("then", (lag,) * 9), ("beside", (lag,) * 9), ("then", (wire, ("ring", ("beside", (lag, wire) * 6)), lag,
                                                                   ("turned", ("then", (lag, lag)))))]
    # Small tuples that hold one another over and over: unfolded they have more boxes than could ever be counted.
    for word in ("then", "beside"):
        many, wrong = wire, ("no",)
        for k in range(15):
            many, wrong = (word, (many,) * 12), (word, (wrong,) * 12)
        found += [many, wrong, ("turned", many)]
    return found


def drawn_even_row(draw, prime, width, most):
    """An equation whose sums mostly have one degree, so that many ends may be its head."""
    long = draw.randint(1, most)
    return tuple(cut([draw.randrange(prime) for place in range(long)], prime) for end in range(width))


def drawn_book(draw, ends=4, most=3, primes=(2, 2, 3, 5, 97)):
    """A book of at most so many ends, its sums of at most so many residues."""
    prime, width = draw.choice(primes), draw.randint(0, ends)
    left, drawn = draw.randint(0, width), draw.choice([drawn_row, drawn_even_row])
    rows = [drawn(draw, prime, width, most) for k in range(draw.randint(0, width))]
    return Book(rows, left=left, right=width - left, prime=prime)


def drawn_books(seed, many, **limits):
    """(draw, book), drawn the same each time."""
    draw = random.Random(seed)
    for k in range(many):
        yield draw, drawn_book(draw, **limits)


def width_of(book):
    return sum(book.ends())


def greatest(book):
    """The greatest told height, 0 without equations."""
    return max([head_and_height(row)[1] for row in book.equations()], default=0)


def all_signs(many, prime):
    """All tuples of so many residues."""
    return list(itertools.product(range(prime), repeat=many))


def drawn_sign(draw, many, prime):
    return tuple(draw.randrange(prime) for k in range(many))


def plain_reading(row, sheet, place, prime):
    """What [4] says of an equation at a place."""
    return sum(n * sheet[place + i][end] for end, one in enumerate(row) for i, n in enumerate(one)) % prime


def keeps(row, sheet, prime):
    """Whether a sheet keeps an equation wherever it is long enough."""
    top = max(len(one) for one in row) - 1
    return not any(plain_reading(row, sheet, place, prime) for place in range(len(sheet) - top))


def echelon(vectors, prime):
    """The same span by vectors whose first numbers that are not 0 are 1, at unlike places, and 0 in all others."""
    found = {}
    for vector in vectors:
        vector = list(vector)
        for at, other in found.items():
            if vector[at]:
                by = vector[at]
                vector = [(a - by * b) % prime for a, b in zip(vector, other)]
        at = next((k for k, n in enumerate(vector) if n), None)
        if at is not None:
            unit = pow(vector[at], -1, prime)
            vector = [n * unit % prime for n in vector]
            for other in found:
                if found[other][at]:
                    by = found[other][at]
                    found[other] = [(a - by * b) % prime for a, b in zip(found[other], vector)]
            found[at] = vector
    return found


def spans(basis, vector, prime):
    """Whether a vector is within the span of an echelon."""
    for at, other in basis.items():
        by = vector[at]
        vector = [(a - by * b) % prime for a, b in zip(vector, other)] if by else vector
    return not any(vector)


def solutions(rows, many, prime):
    """Vectors whose span is all of so many residues whose products with each row, added, are 0."""
    basis = echelon(rows, prime)
    found = []
    for free in range(many):
        if free not in basis:
            vector = [0] * many
            vector[free] = 1
            for at, row in basis.items():
                vector[at] = -row[free] % prime
            found.append(vector)
    return found


def windows(rows, width, shown, places, prime):
    """An echelon of all beginnings of strands that keep the rows, of so many places, at the shown ends, laid flat.

    As many places more as all heights together are looked at: what can go on so far can go on for ever.
    """
    heights = [max(len(one) for one in row) - 1 for row in rows if any(row)]
    long = places + sum(heights) + 1
    bound = []
    for row in rows:
        for start in range(long - max(len(one) for one in row) + 1 if any(row) else 0):
            flat = [0] * (width * long)
            for end, one in enumerate(row):
                for i, n in enumerate(one):
                    flat[(start + i) * width + end] = n
            bound.append(flat)
    found = solutions(bound, width * long, prime)
    return echelon([[one[t * width + end] for t in range(places) for end in shown] for one in found], prime)


def flat(sheet):
    return [n for sign in sheet for n in sign]


def plain_ends(box):
    """(left, right) of a box, as [6] says."""
    word = box[0]
    return {"copy": lambda: (1, box[1]), "sum": lambda: (box[1], 1), "mix": lambda: (len(box[1][0]), len(box[1])),
            "shuffle": lambda: (len(box[1]),) * 2}.get(word, lambda: (1, 1))()


def plain_rows(box, prime):
    """What [6] says of a box, as equations on its left and right ends."""
    left, right = plain_ends(box)
    found = []
    for end in range(right):
        word, row = box[0], [[0, 0] for k in range(left + right)]
        row[left + end][0] = -1
        if word == "lag":
            row = [[1, 0], [0, -1]]
        elif word == "shuffle":
            row[box[1][end]][0] = 1
        else:
            for k in range(left):
                row[k][0] = {"weigh": lambda: box[1], "mix": lambda: box[1][end][k]}.get(word, lambda: 1)()
        found.append(tuple(cut(one, prime) for one in row))
    return found


def strands(wiring, prime):
    """(rows, many, left, right): equations of all boxes on all strands, and which strands stand on the ends."""
    same, boxes = [], []

    def name(k):
        while same[k] != k:
            k = same[k]
        return k

    def join(one, other):
        same[name(one)] = name(other)

    def walk(part):
        if part[0] in ("then", "beside"):
            sides = [walk(one) for one in part[1]]
            if part[0] == "beside":
                return [k for left, right in sides for k in left], [k for left, right in sides for k in right]
            for (left, right), (more, last) in zip(sides, sides[1:]):
                for one, other in zip(right, more, strict=True):
                    join(one, other)
            return sides[0][0], sides[-1][1]
        if part[0] == "turned":
            left, right = walk(part[1])
            return right, left
        if part[0] == "ring":
            left, right = walk(part[1])
            join(left[-1], right[-1])
            return left[:-1], right[:-1]
        ends = [len(same) + k for k in range(sum(plain_ends(part)))]
        same.extend(ends)
        boxes.append((part, ends))
        return ends[:plain_ends(part)[0]], ends[plain_ends(part)[0]:]

    left, right = walk(wiring)
    number = {k: at for at, k in enumerate(sorted({name(k) for k in range(len(same))}))}
    rows = []
    for box, ends in boxes:
        for row in plain_rows(box, prime):
            full = [()] * len(number)
            for end, one in zip(ends, row, strict=True):
                at = number[name(end)]
                full[at] = plain_plus(full[at], one, prime)
            rows.append(tuple(full))
    return rows, len(number), [number[name(k)] for k in left], [number[name(k)] for k in right]


def drawn_mix(draw, left, right):
    return "mix", tuple(tuple(draw.choice([0, 1, 2, 96, draw.randint(0, 96)]) for k in range(left))
                        for row in range(right))


def drawn_fitting_box(draw, left):
    """A box, or one turned, or few of them, with so many left ends."""
    if left == 0:
        return draw.choice([("sum", 0), turned(("copy", 0)), then(turned(("copy", 0)), ("copy", draw.randint(0, 3)))])
    if left == 1:
        return draw.choice([("wire",), ("lag",), ("lag",), turned(("lag",)), ("weigh", draw.randint(0, 96)),
                            ("copy", draw.randint(0, 3)), turned(("sum", draw.randint(0, 3))), turned(("sum", 0)),
                            drawn_mix(draw, 1, draw.randint(1, 2))])
    found = [("shuffle", tuple(draw.sample(range(left), left))), drawn_mix(draw, left, draw.randint(1, 3)),
             turned(drawn_mix(draw, draw.randint(1, 3), left))]
    found += [("sum", left), turned(("copy", left))] if left <= 4 else []
    return draw.choice(found)


def right_ends(wiring):
    """How many right ends a wiring that fits has."""
    return len(strands(wiring, 2)[3])


def drawn_fit(draw, left, deep):
    """A wiring with so many left ends, all of whose ends fit."""
    kind = draw.choice(["box", "then", "then", "beside", "turned", "ring"]) if deep > 1 else "box"
    if kind == "then":
        first = drawn_fit(draw, left, deep - 1)
        return then(first, drawn_fit(draw, right_ends(first), deep - 1)) if right_ends(first) <= 4 else first
    if kind == "beside":
        above = draw.randint(0, left)
        return beside(drawn_fit(draw, above, deep - 1), drawn_fit(draw, left - above, deep - 1))
    if kind == "turned":
        inner = drawn_fit(draw, draw.randint(0, 3), deep - 1)
        if right_ends(inner) == left:
            return turned(inner)
        if left and right_ends(inner):
            return turned(then(inner, drawn_mix(draw, right_ends(inner), left)))
    if kind == "ring":
        inner = drawn_fit(draw, left + 1, deep - 1)
        if right_ends(inner):
            return ring(inner)
    return drawn_fitting_box(draw, left)


def drawn_fits(seed, many, deep=4):
    """(draw, prime, wiring): wirings that fit, of at most twelve ends on a side and not too many strands."""
    draw = random.Random(seed)
    while many:
        wiring, prime = drawn_fit(draw, draw.randint(0, 3), deep), draw.choice([2, 2, 3, 5, 97])
        rows, strand_count, left, right = strands(wiring, prime)
        if within_counts(wiring) and strand_count <= 20 and len(left) + len(right) <= 6:
            many -= 1
            yield draw, prime, wiring


def use(name):
    return "use", name


def laid(prime=5, **wirings):
    """Works with these wirings."""
    works = Works(prime=prime)
    for name, wiring in wirings.items():
        works.lay(name, wiring)
    return works


def stood(works):
    """All that works tell of themselves."""
    return (works.prime(), works.names(), [works.wiring(name) for name in works.names()], works.watches(),
            [works.sheet(number) for number, name in works.watches()], works.coming(), works.deeds(), len(works),
            repr(works))


def refuse(test, works, kind, word, *handed):
    """Asserts a refusal by the method and by do, and that nothing is changed; the error."""
    before, twin = stood(works), works.twin()
    found = refused(test, kind, getattr(works, word), *handed)
    again = refused(test, kind, works.do, (word, *handed))
    test.assertEqual(vars(again), vars(found))
    test.assertEqual(stood(works), before)
    test.assertEqual(works, twin)
    return found
