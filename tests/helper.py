"""What several test files need: drawn lag sums, plain reckoning to compare with, and refusals."""

import random

from lagworks.errors import LagError, WorksError

ALL_PRIMES = [n for n in range(2, 98) if all(n % k for k in range(2, n))]

# 0, 1, 4, 97 + 4 and the like, below nought, of twenty figures (some of them primes elsewhere).
NO_PRIMES = [0, 1, 4, 6, 9, 91, 95, 96, 98, 99, 100, 97 + 4, 103, -1, -2, -3, -97,
             99999999999999999999, -99999999999999999999, 10 ** 19, -(10 ** 19),
             18446744073709551557, 10000000000000000051]


def cut(numbers, prime):
    """Numbers by places as a lag sum."""
    found = [n % prime for n in numbers]
    while found and found[-1] == 0:
        found.pop()
    return tuple(found)


def plain_plus(one, other, prime):
    long = max(len(one), len(other))
    return cut([(one + (0,) * long)[k] + (other + (0,) * long)[k] for k in range(long)], prime)


def plain_minus(one, other, prime):
    return plain_plus(one, tuple(-n for n in other), prime)


def plain_times(one, other, prime):
    return cut([sum(one[i] * other[k - i] for i in range(len(one)) if 0 <= k - i < len(other))
                for k in range(len(one) + len(other))], prime)


def is_lag_sum(found, prime):
    """Whether what is told is a tuple of residues without a last 0."""
    return (type(found) is tuple and all(type(n) is int and 0 <= n < prime for n in found)
            and (not found or found[-1] != 0))


def divides(one, other, prime):
    """Whether other, by plain long division, is a multiple of one (not nought)."""
    unit = next(k for k in range(prime) if k * one[-1] % prime == 1)
    while len(other) >= len(one):
        top = (0,) * (len(other) - len(one)) + (other[-1] * unit % prime,)
        other = plain_minus(other, plain_times(top, one, prime), prime)
    return other == ()


def drawn_sum(draw, prime, most=12):
    """A lag sum of at most so many residues; nought, full length and gaps are not rare."""
    long = draw.choice([0, 1, 2, most, draw.randint(0, most)])
    gaps = draw.random() < 0.3
    return cut([0 if gaps and draw.random() < 0.6 else draw.randrange(prime) for k in range(long)], prime)


def drawn_pairs(seed, many, most=12):
    """(prime, one, other), drawn the same each time."""
    draw = random.Random(seed)
    for k in range(many):
        prime = draw.choice([2, 3, 5, 7, 97, draw.choice(ALL_PRIMES)])
        yield prime, drawn_sum(draw, prime, most), drawn_sum(draw, prime, most)


def all_sums(prime, most):
    """All lag sums of at most so many residues."""
    found = [()]
    rising = [()]
    for k in range(most):
        rising = [one + (n,) for one in rising for n in range(prime)]
        found.extend(one for one in rising if one[-1] != 0)
    return found


def refused(test, kind, action, *handed, **named):
    """Asserts that just this error comes, with its word, and tells it."""
    with test.assertRaises((LagError, WorksError)) as caught:
        action(*handed, **named)
    test.assertIs(type(caught.exception), kind, (handed, named))
    test.assertEqual(caught.exception.word, kind.__name__)
    return caught.exception


def drawn_row(draw, prime, width, most=4):
    """An equation of this width; nought sums are not rare."""
    return tuple(() if draw.random() < 0.2 else drawn_sum(draw, prime, most) for end in range(width))


def drawn_tables(seed, many, most=4):
    """(draw, prime, width, rows): tables of one to four ends and none to four equations."""
    draw = random.Random(seed)
    for k in range(many):
        prime, width = draw.choice([2, 2, 3, 5, 97]), draw.randint(1, 4)
        rows = [drawn_row(draw, prime, width, most) for row in range(draw.randint(0, 4))]
        yield draw, prime, width, rows


def no_row(width):
    """The equation that is nought everywhere."""
    return ((),) * width


def added_rows(one, other, prime):
    return tuple(plain_plus(a, b, prime) for a, b in zip(one, other))


def multiplied(row, by, prime):
    return tuple(plain_times(one, by, prime) for one in row)


def multiplied_out(sums, rows, width, prime):
    """What comes when each equation is multiplied by its lag sum and all are added."""
    found = no_row(width)
    for by, row in zip(sums, rows, strict=True):
        found = added_rows(found, multiplied(row, by, prime), prime)
    return found


def head_and_height(row):
    """(head, height) of an equation that is not nought everywhere."""
    top = max(len(one) for one in row) - 1
    return [end for end, one in enumerate(row) if len(one) - 1 == top][-1], top


def check_told_form(test, found, width, prime):
    """Asserts each point of a told form, and that it is a list of equations."""
    test.assertIs(type(found), list)
    for row in found:
        test.assertIs(type(row), tuple)
        test.assertEqual(len(row), width)
        test.assertTrue(all(is_lag_sum(one, prime) for one in row), row)
        test.assertNotEqual(row, no_row(width))
    heads = [head_and_height(row)[0] for row in found]
    test.assertEqual(heads, sorted(set(heads)))
    for row, head in zip(found, heads):
        test.assertEqual(row[head][-1], 1)
        for other in found:
            if other is not row:
                test.assertLess(len(other[head]), len(row[head]), found)


def then(*parts):
    return "then", parts


def beside(*parts):
    return "beside", parts


def turned(part):
    return "turned", part


def ring(part):
    return "ring", part


WORDS = ["wire", "lag", "weigh", "copy", "sum", "mix", "shuffle"]


def drawn_box(draw, words):
    """A box with one of these words."""
    word = draw.choice(words)
    if word in ("wire", "lag"):
        return (word,)
    if word in ("weigh", "copy", "sum"):
        return word, draw.randint(0, 96 if word == "weigh" else 4)
    if word == "use":
        return word, "".join(draw.choice("abcxyz") for k in range(draw.randint(1, 8)))
    many = draw.randint(1, 4)
    if word == "shuffle":
        return word, tuple(draw.sample(range(many), many))
    return word, tuple(tuple(draw.randint(0, 96) for k in range(many)) for row in range(draw.randint(1, 4)))


def drawn_wiring(draw, deep, words=WORDS):
    """A wiring at most so deep, whether its ends fit or not; few boxes."""
    kind = draw.choice(["box", "then", "beside", "turned", "ring"]) if deep > 1 else "box"
    if kind == "box":
        return drawn_box(draw, words)
    if kind in ("turned", "ring"):
        return kind, drawn_wiring(draw, deep - 1, words)
    return kind, tuple(drawn_wiring(draw, deep - 1, words) for k in range(draw.choice([1, 1, 2, 2, 3])))


def plain_boxes(wiring):
    """All boxes of a wiring."""
    if wiring[0] in ("turned", "ring"):
        return plain_boxes(wiring[1])
    if wiring[0] in ("then", "beside"):
        return [box for part in wiring[1] for box in plain_boxes(part)]
    return [wiring]


def within_counts(wiring):
    """Whether a wiring of small depth has at most 60 boxes and 8 lags."""
    return len(plain_boxes(wiring)) <= 60 and plain_boxes(wiring).count(("lag",)) <= 8


def nested(word, many, part):
    """The part within so many of a joining word."""
    for k in range(many):
        part = (word, (part,)) if word in ("then", "beside") else (word, part)
    return part


def wrong_wirings():
    """Tuples of texts, numbers and such tuples that are no wirings, whether with a use or not, and why."""
    big, wire = 99999999999999999999, ("wire",)
    found = [(), ("",), ((),), (1,), (-big,), ("wires",), ("Wire",), (" wire",), ("wire\n",), ("x" * 4000,), (wire,),
             (wire, wire), (("wire",), 1), (((((((((("wire",),),),),),),),),),), ("0",), (0, "wire")]
    for word in ("wire", "lag"):
        found += [(word, 1), (word, word), (word, ()), (word, wire), (word, 0, 0), (word, "")]
    for word, top in (("weigh", 96), ("copy", 4), ("sum", 4)):
        found += [(word,), (word, 1, 1), (word, "1"), (word, ""), (word, ()), (word, (1,)), (word, ((1,),)),
                  (word, wire), (word, top + 1), (word, -1), (word, big), (word, -big), (word, 0, ())]
    found += [("mix",), ("mix", ((1,),), ((1,),)), ("mix", 1), ("mix", "1"), ("mix", ""), ("mix", ()), ("mix", ((),)),
              ("mix", (1,)), ("mix", ("1",)), ("mix", (("1",),)), ("mix", (((1,),),)), ("mix", ((1,), 1)),
              ("mix", (1, (1,))), ("mix", ((1,), "1")), ("mix", ((1, 2), (1,))), ("mix", ((1,), (1, 2))),
              ("mix", ((1,), ())), ("mix", ((), (1,))), ("mix", ((97,),)), ("mix", ((-1,),)), ("mix", ((big,),)),
              ("mix", ((0, -big),)), ("mix", ((1, 2), (3, 97))), ("mix", ((1, 2), (3, "4"))), ("mix", ((1, 2), (3, ()))),
              ("mix", ((1,),) * 13), ("mix", ((1,) * 13,)), ("mix", ((1,) * 13,) * 13), ("mix", ((0,) * 60,) * 60),
              ("mix", wire), ("mix", ((1, 1),) * 11 + ((1,),))]
    found += [("shuffle",), ("shuffle", (0,), (0,)), ("shuffle", 0), ("shuffle", "0"), ("shuffle", ""), ("shuffle", ()),
              ("shuffle", ("0",)), ("shuffle", ((0,),)), ("shuffle", (1,)), ("shuffle", (0, 0)), ("shuffle", (1, 1)),
              ("shuffle", (0, 2)), ("shuffle", (1, 2)), ("shuffle", (-1, 0)), ("shuffle", (0, big)),
              ("shuffle", (-big,)), ("shuffle", (0, 1, "2")), ("shuffle", (0, 1, ())), ("shuffle", tuple(range(13))),
              ("shuffle", tuple(range(60))), ("shuffle", tuple(range(11)) + (10,)), ("shuffle", wire)]
    # True and False are no numbers.
    found += [("weigh", True), ("copy", False), ("sum", True), ("mix", ((True,),)), ("shuffle", (False,))]
    for word in ("then", "beside"):
        found += [(word,), (word, ()), (word, (wire,), (wire,)), (word, wire), (word, 1), (word, "wire"), (word, ""),
                  (word, ("wire", "lag")), (word, (1,)), (word, ((),)), (word, (wire, ())), (word, (wire, 1)),
                  (word, (wire, "wire")), (word, ((wire,),)), (word, (wire,) * 13), (word, (wire,) * 60),
                  (word, (wire, ("no",))), (word, (("copy", 5), wire)), (word, wire, wire)]
    for word in ("turned", "ring"):
        found += [(word,), (word, wire, wire), (word, ()), (word, "wire"), (word, 1), (word, ""), (word, (wire,)),
                  (word, ("no",)), (word, ("copy", -1)), (word, ("wire", 1))]
    for name in ("", "A", "aB", "abcdefghi", "a b", "a1", "a-b", "a\n", "\n", " ", "a" * 4000, 1, 0, -big, (), ("a",)):
        found.append(("use", name))
    found += [("use",), ("use", "a", "b"), ("use", "a", ()), ("uses", "a"), ("Use", "a")]
    return found + too_great_wirings()


def too_great_wirings():
    """Wirings but for their depth, or how many boxes or lags they have."""
    wire, lag = ("wire",), ("lag",)
    found = [nested(word, many, wire) for word in ("turned", "ring", "then", "beside") for many in (16, 17, 19)]
    found += [nested("turned", 39, wire), nested("then", 19, lag), ("then", (wire, nested("beside", 15, wire)))]
    hollow = ()
    for k in range(39):
        hollow = (hollow,)
    found += [hollow, ("turned", hollow[0])]
    five = ("beside", (wire,) * 5)
    found += [("then", (five,) * 11 + (("beside", (wire,) * 6),)), ("beside", (five,) * 12 + (wire,)),
              ("then", (("then", (wire,) * 12),) * 6), ("beside", (("then", (five,) * 12), wire))]
    found += [("then", (lag,) * 9), ("beside", (lag,) * 9), ("then", (wire, ("ring", ("beside", (lag, wire) * 6)), lag,
                                                                   ("turned", ("then", (lag, lag)))))]
    # Small tuples that hold one another over and over: unfolded they have more boxes than could ever be counted.
    for word in ("then", "beside"):
        many, wrong = wire, ("no",)
        for k in range(15):
            many, wrong = (word, (many,) * 12), (word, (wrong,) * 12)
        found += [many, wrong, ("turned", many)]
    return found
