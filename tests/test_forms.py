import unittest
from random import Random

from sameworth.forms import Forms
from tests import slowforms

NAMES = [(0, 0), (0, 1), (1, 4), (1, 12)]
TWO = ("plus", "plus", "minus", "minus", "times", "same", "below")


def drawn(rng, deep):
    """An expression, at most so deep: ("num", n), ("leaf", name), (word, one, other) or ("pick", one, parts)."""
    kind = rng.random()
    if deep == 0 or kind < 0.15:
        return ("leaf", rng.choice(NAMES)) if rng.random() < 0.6 else ("num", rng.randrange(-4, 7))
    if kind < 0.35:
        return ("pick", drawn(rng, deep - 1), tuple(drawn(rng, deep - 2) for k in range(rng.randrange(1, 5)))
                if deep > 1 else (("num", 3), ("leaf", NAMES[0])))
    return (rng.choice(TWO), drawn(rng, deep - 1), drawn(rng, deep - 1))


def made(forms, expression):
    """The form of an expression by what a Forms, or slowforms, tells."""
    word, *args = expression
    if word in ("num", "leaf"):
        return getattr(forms, word)(args[0])
    if word == "pick":
        return forms.pick(made(forms, args[0]), [made(forms, part) for part in args[1]])
    return getattr(forms, word)(made(forms, args[0]), made(forms, args[1]))


def reckoned(expression, worths):
    """An expression's worth as it is written."""
    word, *args = expression
    if word == "num":
        return args[0]
    if word == "leaf":
        return worths[args[0]]
    one = reckoned(args[0], worths)
    if word == "pick":
        return reckoned(args[1][one % len(args[1])], worths)
    other = reckoned(args[1], worths)
    return {
        "plus": one + other, "minus": one - other, "times": one * other,
        "same": int(one == other), "below": int(one < other),
    }[word]


def with_put(expression, name, put):
    word, *args = expression
    if word == "num":
        return expression
    if word == "leaf":
        return put if args[0] == name else expression
    if word == "pick":
        return ("pick", with_put(args[0], name, put), tuple(with_put(part, name, put) for part in args[1]))
    return (word, with_put(args[0], name, put), with_put(args[1], name, put))


class Asked(unittest.TestCase):
    def setUp(self):
        self.forms = Forms()
        self.x, self.y, self.z = [self.forms.leaf(name) for name in NAMES[:3]]

    def number(self, n):
        return self.forms.num(n)

    def total(self, *parts):
        """The sum of pairs (number, form)."""
        whole = self.number(0)
        for n, f in parts:
            whole = self.forms.plus(whole, self.forms.times(self.number(n), f))
        return whole

    def power(self, f, many):
        whole = self.number(1)
        for k in range(many):
            whole = self.forms.times(whole, f)
        return whole

    def all_unlike(self, *forms):
        self.assertEqual(len(set(forms)), len(forms))


class Sums(Asked):
    def test_numbers(self):
        f = self.forms
        for one in (-3, 0, 2, 10 ** 40):
            for other in (-10 ** 12, -1, 0, 5):
                a, b = f.num(one), f.num(other)
                self.assertEqual(f.plus(a, b), f.num(one + other))
                self.assertEqual(f.minus(a, b), f.num(one - other))
                self.assertEqual(f.times(a, b), f.num(one * other))
                self.assertEqual(f.same(a, b), f.num(int(one == other)))
                self.assertEqual(f.below(a, b), f.num(int(one < other)))
        self.all_unlike(*[f.num(n) for n in range(-5, 6)])

    def test_leaves(self):
        self.all_unlike(self.x, self.y, self.z, self.number(0), self.number(1))
        self.assertEqual(self.forms.leaf((0, 0)), self.x)
        self.assertEqual(self.forms.leaf((1, 4)), self.z)
        self.all_unlike(self.forms.leaf((4, 1)), self.z, self.forms.leaf((1, 0)), self.y)

    def test_multiplied_out_and_put_otherwise(self):
        f, x, y, z = self.forms, self.x, self.y, self.z
        self.assertEqual(f.plus(x, y), f.plus(y, x))
        self.assertEqual(f.plus(f.plus(x, y), z), f.plus(x, f.plus(z, y)))
        self.assertEqual(f.times(f.times(x, y), z), f.times(y, f.times(z, x)))
        self.assertEqual(f.times(x, f.plus(y, z)), f.plus(f.times(z, x), f.times(x, y)))
        self.assertEqual(f.times(f.plus(x, y), f.minus(x, y)), f.minus(f.times(x, x), f.times(y, y)))
        self.assertEqual(f.minus(x, x), f.num(0))
        self.assertEqual(f.minus(f.plus(x, y), y), x)
        self.assertEqual(f.times(x, f.num(0)), f.num(0))
        self.assertEqual(f.times(x, f.num(1)), x)
        self.assertEqual(f.plus(x, x), f.times(f.num(2), x))
        self.assertEqual(f.minus(f.num(0), f.minus(x, y)), f.minus(y, x))

    def test_unlike_ones(self):
        f, x, y = self.forms, self.x, self.y
        self.all_unlike(
            x, y, f.plus(x, y), f.minus(x, y), f.minus(y, x), f.times(x, y), f.times(x, x), f.times(y, y),
            f.plus(x, f.num(1)), f.plus(x, f.num(-1)), f.plus(x, x), f.num(2),
            f.times(x, f.times(x, y)), f.times(x, f.times(y, y)), f.num(0),
        )

    def test_powers(self):
        f, x, y = self.forms, self.x, self.y
        both = f.plus(x, y)
        binomial = [1]
        for many in range(1, 41):
            binomial = [1] + [a + b for a, b in zip(binomial, binomial[1:])] + [1]
            if many in (2, 3, 5, 39, 40):
                parts = [
                    (n, f.times(self.power(x, k), self.power(y, many - k))) for k, n in enumerate(binomial)
                ]
                self.assertEqual(self.power(both, many), self.total(*parts))

    def test_many_products(self):
        # (1 + a + .. + f) to the fourth power has 210 products.
        f = self.forms
        leaves = [f.leaf((0, i)) for i in range(6)]
        whole = self.total((1, f.num(1)), *[(1, leaf) for leaf in leaves])
        square = f.times(whole, whole)
        fourth = f.times(square, square)
        self.assertEqual(fourth, f.times(whole, f.times(whole, square)))
        self.assertEqual(f.worth(fourth, {(0, i): i for i in range(6)}), 16 ** 4)
        self.assertEqual(f.minus(fourth, f.times(f.times(whole, square), whole)), f.num(0))

    def test_tests_and_picks_are_atoms(self):
        f, x, y = self.forms, self.x, self.y
        test, pick = f.below(x, y), f.pick(x, [x, y])
        self.assertEqual(f.times(test, f.plus(x, pick)), f.plus(f.times(pick, test), f.times(x, test)))
        # A test is 1 or 0, but by the told rules its square is another form.
        self.all_unlike(test, f.times(test, test), pick, f.times(pick, pick), f.plus(test, pick))


class Same(Asked):
    def test_what_is_known(self):
        f, x, y = self.forms, self.x, self.y
        self.assertEqual(f.same(x, x), f.num(1))
        self.assertEqual(f.same(f.plus(x, y), f.plus(y, x)), f.num(1))
        self.assertEqual(f.same(x, f.plus(x, f.num(1))), f.num(0))
        self.assertEqual(f.same(f.minus(x, f.num(-4)), x), f.num(0))

    def test_more_by_a_form_and_turned(self):
        f, x, y, z = self.forms, self.x, self.y, self.z
        test = f.same(x, y)
        self.assertEqual(f.same(y, x), test)
        self.assertEqual(f.same(f.plus(x, z), f.plus(y, z)), test)
        self.assertEqual(f.same(f.minus(x, y), f.num(0)), test)
        self.assertEqual(f.same(f.num(0), f.minus(x, y)), test)
        self.assertEqual(f.same(f.times(x, x), f.times(y, y)), f.same(f.times(y, y), f.times(x, x)))
        self.all_unlike(test, f.same(x, z), f.same(x, f.num(0)), f.same(x, f.plus(y, f.num(1))), f.num(0), f.num(1))
        self.all_unlike(test, f.same(f.times(x, x), f.times(y, y)), f.below(x, y), f.below(y, x))

    def test_as_many_times(self):
        f, x, y = self.forms, self.x, self.y
        test = f.same(x, f.plus(y, f.num(2)))
        for n in (-6, -2, -1, 1, 2, 3, 10 ** 12):
            left, right = f.times(f.num(n), x), f.times(f.num(n), f.plus(y, f.num(2)))
            self.assertEqual(f.same(left, right), test)
            self.assertEqual(f.same(right, left), test)
        self.assertEqual(f.same(x, f.minus(f.num(0), x)), f.same(x, f.num(0)))

    def test_a_number_that_divides_and_one_that_doesnt(self):
        f, x, y = self.forms, self.x, self.y
        left = self.total((6, x), (-4, y))
        for c in range(-9, 10):
            told = f.same(left, f.num(c))
            if c % 2:
                self.assertEqual(told, f.num(0))
            else:
                self.assertEqual(told, f.same(self.total((3, x), (-2, y)), f.num(c // 2)))
                self.assertIsNone(f.number_in(told))
        self.assertIsNone(f.number_in(f.same(self.total((6, x), (5, y)), f.num(7))))
        self.assertEqual(f.same(self.total((-3, x), (1, f.num(1))), f.num(0)), f.num(0))

    def test_of_powers(self):
        f, x, y = self.forms, self.x, self.y
        square = f.times(x, x)
        self.assertEqual(f.same(square, f.num(-1)), f.same(f.minus(f.num(-1), square), f.num(0)))
        self.all_unlike(f.same(square, f.num(0)), f.same(x, f.num(0)), f.same(f.times(x, y), f.num(0)))


class Below(Asked):
    def test_what_is_known(self):
        f, x = self.forms, self.x
        self.assertEqual(f.below(x, x), f.num(0))
        self.assertEqual(f.below(x, f.plus(x, f.num(1))), f.num(1))
        self.assertEqual(f.below(f.plus(x, f.num(1)), x), f.num(0))

    def test_more_by_a_form(self):
        f, x, y, z = self.forms, self.x, self.y, self.z
        test = f.below(x, y)
        self.assertEqual(f.below(f.plus(x, z), f.plus(z, y)), test)
        self.assertEqual(f.below(f.num(0), f.minus(y, x)), test)
        self.assertEqual(f.below(f.minus(x, y), f.num(0)), test)
        self.assertEqual(f.below(f.minus(f.num(0), y), f.minus(f.num(0), x)), test)
        self.all_unlike(test, f.below(y, x), f.below(x, f.plus(y, f.num(1))), f.below(f.plus(x, f.num(1)), y))

    def test_as_many_times(self):
        f, x, y = self.forms, self.x, self.y
        test, turned = f.below(x, y), f.below(y, x)
        for n in (1, 2, 7, 10 ** 12):
            self.assertEqual(f.below(f.times(f.num(n), x), f.times(f.num(n), y)), test)
            self.assertEqual(f.below(f.times(f.num(-n), x), f.times(f.num(-n), y)), turned)

    def test_the_number_cut_off(self):
        # 3 x + c is above 0 just where x is -((c - 1) // 3) or more.
        f, x = self.forms, self.x
        for c in range(-12, 13):
            told = f.below(f.num(0), self.total((3, x), (1, f.num(c))))
            self.assertEqual(told, f.below(f.num(-((c - 1) // 3) - 1), x), c)
            for worth in range(-8, 9):
                self.assertEqual(f.worth(told, {(0, 0): worth}), int(3 * worth + c > 0))
        self.all_unlike(*[f.below(f.num(n), x) for n in range(-5, 6)])

    def test_of_several_products(self):
        f, x, y = self.forms, self.x, self.y
        whole = self.total((4, x), (-6, f.times(y, y)))
        half = self.total((2, x), (-3, f.times(y, y)))
        for c in range(-7, 8):
            self.assertEqual(f.below(whole, f.num(c)), f.below(half, f.num((c + 1) // 2)))
            self.assertEqual(f.below(f.num(c), whole), f.below(f.num(c // 2), half))


class Pick(Asked):
    def test_known_rests(self):
        f, x, y, z = self.forms, self.x, self.y, self.z
        for n in range(-7, 8):
            self.assertEqual(f.pick(f.num(n), [x, y, z]), [x, y, z][n % 3])
            whole = self.total((3, x), (-6, f.times(x, y)), (1, f.num(n)))
            self.assertEqual(f.pick(whole, [x, y, z]), [x, y, z][n % 3])
        self.assertEqual(f.pick(x, [y]), y)

    def test_alike_parts(self):
        f, x, y, z = self.forms, self.x, self.y, self.z
        self.assertEqual(f.pick(x, [y, y, y]), y)
        self.assertEqual(f.pick(x, [f.plus(y, z), f.plus(z, y)]), f.plus(y, z))
        self.all_unlike(f.pick(x, [y, y, z]), y, z, f.pick(x, [y, z, y]), f.pick(x, [y, z]), f.pick(x, [z, y]))

    def test_more_by_any_number_of_times_how_many_parts(self):
        f, x, y, z = self.forms, self.x, self.y, self.z
        parts = [x, y, z]
        told = f.pick(self.total((2, x), (1, y)), parts)
        self.assertEqual(f.pick(self.total((5, x), (-2, y), (9, f.num(1))), parts), told)
        self.assertEqual(f.pick(self.total((-1, x), (1, y), (6, f.times(x, z))), parts), told)
        self.all_unlike(
            told, f.pick(self.total((1, x), (2, y)), parts), f.pick(self.total((2, x), (1, y), (1, f.num(1))), parts),
            f.pick(self.total((2, x), (1, y)), [x, y, z, z]),
        )

    def test_twenty_parts(self):
        f, x = self.forms, self.x
        parts = [f.plus(x, f.num(n * n)) for n in range(20)]
        told = f.pick(f.times(x, x), parts)
        for worth in range(-25, 26):
            self.assertEqual(f.worth(told, {(0, 0): worth}), worth + (worth * worth % 20) ** 2)
        self.assertEqual(f.pick(self.total((21, f.times(x, x)), (20, x)), parts), told)
        self.assertEqual(f.pick(f.num(-3), parts), parts[17])

    def test_a_list_of_parts_isnt_kept(self):
        f, x, y = self.forms, self.x, self.y
        parts = [x, y]
        told = f.pick(x, parts)
        parts.reverse()
        self.assertEqual(parts, [y, x])
        self.assertEqual([f.worth(told, {(0, 0): n, (0, 1): 7}) for n in (0, 1, 2)], [0, 7, 2])
        self.assertEqual(f.pick(x, [x, y]), told)
        self.assertNotEqual(f.pick(x, parts), told)


class Told(Asked):
    def test_number_in(self):
        f, x = self.forms, self.x
        for n in (-10 ** 12, -1, 0, 1, 10 ** 12):
            self.assertEqual(f.number_in(f.num(n)), n)
            self.assertEqual(f.number_in(f.minus(f.plus(x, f.num(n)), x)), n)
        for form in (x, f.plus(x, f.num(1)), f.times(x, x), f.same(x, f.num(0)), f.pick(x, [x, f.num(0)])):
            self.assertIsNone(f.number_in(form))

    def test_leaves_in(self):
        f, x, y, z = self.forms, self.x, self.y, self.z
        self.assertEqual(f.leaves_in(f.num(3)), [])
        self.assertEqual(f.leaves_in(f.times(z, f.plus(y, x))), [(0, 0), (0, 1), (1, 4)])
        self.assertEqual(f.leaves_in(f.below(f.times(y, z), f.num(2))), [(0, 1), (1, 4)])
        self.assertEqual(f.leaves_in(f.pick(z, [x, f.same(y, f.num(1))])), [(0, 0), (0, 1), (1, 4)])
        self.assertEqual(f.leaves_in(f.leaf((-3, -4))), [(-3, -4)])
        many = [f.leaf((a, b)) for a in (5, 2, -1) for b in (10, 9, -2)]
        self.assertEqual(f.leaves_in(self.total(*[(1, leaf) for leaf in many])),
                         [(-1, -2), (-1, 9), (-1, 10), (2, -2), (2, 9), (2, 10), (5, -2), (5, 9), (5, 10)])

    def test_leaves_that_went(self):
        f, x, y, z = self.forms, self.x, self.y, self.z
        self.assertEqual(f.leaves_in(f.minus(f.plus(x, y), x)), [(0, 1)])
        self.assertEqual(f.leaves_in(f.pick(self.total((2, x), (1, y)), [y, z])), [(0, 1), (1, 4)])
        self.assertEqual(f.leaves_in(f.pick(f.num(1), [x, y])), [(0, 1)])
        self.assertEqual(f.leaves_in(f.same(f.plus(x, z), f.plus(y, z))), [(0, 0), (0, 1)])
        self.assertEqual(f.leaves_in(f.times(f.num(0), z)), [])

    def test_worth(self):
        f, x, y, z = self.forms, self.x, self.y, self.z
        worths = {(0, 0): 5, (0, 1): -2, (1, 4): 0, (7, 7): 1}
        self.assertEqual(f.worth(f.num(-9), {}), -9)
        self.assertEqual(f.worth(f.times(x, f.plus(y, f.times(x, x))), worths), 115)
        self.assertEqual([f.worth(f.same(x, other), worths) for other in (f.num(5), y)], [1, 0])
        self.assertEqual([f.worth(f.below(a, b), worths) for a, b in ((x, y), (y, x), (z, x), (x, z))], [0, 1, 1, 0])
        self.assertEqual([f.worth(f.pick(by, [x, y, z]), worths) for by in (x, y, z)], [0, -2, 5])
        self.assertEqual(worths, {(0, 0): 5, (0, 1): -2, (1, 4): 0, (7, 7): 1})

    def test_kinds(self):
        f, x, y = self.forms, self.x, self.y
        self.assertIs(type(f.worth(f.same(x, y), {(0, 0): 1, (0, 1): 1})), int)
        self.assertIs(type(f.worth(f.below(x, y), {(0, 0): 1, (0, 1): 1})), int)
        self.assertIs(type(f.number_in(f.same(x, x))), int)
        told = f.leaves_in(f.plus(x, y))
        self.assertIs(type(told), list)
        told.append((9, 9))
        told[0] = None
        self.assertEqual(f.leaves_in(f.plus(x, y)), [(0, 0), (0, 1)])


class Put(Asked):
    def test_in_sums(self):
        f, x, y, z = self.forms, self.x, self.y, self.z
        whole = f.plus(f.times(x, f.times(x, y)), x)
        self.assertEqual(f.put(whole, (0, 0), f.num(0)), f.num(0))
        self.assertEqual(f.put(whole, (0, 0), f.num(3)), f.plus(f.times(f.num(9), y), f.num(3)))
        self.assertEqual(f.put(whole, (0, 1), f.minus(z, x)),
                         f.plus(f.minus(f.times(f.times(x, x), z), self.power(x, 3)), x))
        self.assertEqual(f.put(whole, (1, 4), y), whole)
        self.assertEqual(f.put(whole, (9, 9), y), whole)
        self.assertEqual(f.put(f.num(4), (0, 0), y), f.num(4))

    def test_a_form_with_the_leaf_itself(self):
        f, x, y = self.forms, self.x, self.y
        more = f.plus(x, f.num(1))
        self.assertEqual(f.put(f.times(x, y), (0, 0), more), f.times(more, y))
        self.assertEqual(f.put(f.same(x, y), (0, 0), more), f.same(more, y))
        self.assertEqual(f.put(x, (0, 0), x), x)

    def test_powers(self):
        f, x, y = self.forms, self.x, self.y
        more = f.plus(y, f.num(1))
        self.assertEqual(f.put(self.power(x, 40), (0, 0), more), self.power(more, 40))
        self.assertEqual(f.put(self.total((1, self.power(x, 3)), (-1, self.power(y, 3))), (0, 0), y), f.num(0))

    def test_tests_made_anew(self):
        f, x, y = self.forms, self.x, self.y
        same = f.same(self.total((2, x), (4, y)), f.num(6))
        self.assertEqual(f.put(same, (0, 0), f.num(1)), f.same(y, f.num(1)))
        self.assertEqual(f.put(same, (0, 0), f.num(2)), f.num(0))
        self.assertEqual(f.put(same, (0, 0), self.total((3, f.num(1)), (-2, y))), f.num(1))
        below = f.below(self.total((2, x), (4, y)), f.num(6))
        for n in range(-6, 7):
            self.assertEqual(f.put(below, (0, 0), f.num(n)), f.below(self.total((4, y), (2 * n, f.num(1))), f.num(6)))
        self.assertEqual(f.put(below, (0, 0), self.total((3, f.num(1)), (-2, y))), f.num(0))
        self.assertEqual(f.put(below, (0, 0), self.total((2, f.num(1)), (-2, y))), f.num(1))
        self.assertEqual(f.put(f.plus(f.times(same, y), x), (0, 0), f.num(2)), f.num(2))

    def test_picks_made_anew(self):
        f, x, y, z = self.forms, self.x, self.y, self.z
        pick = f.pick(f.plus(x, y), [x, y, z])
        self.assertEqual(f.put(pick, (0, 0), f.minus(f.num(4), y)), y)
        self.assertEqual(f.put(pick, (0, 0), f.minus(f.num(-3), y)), f.minus(f.num(-3), y))
        self.assertEqual(f.put(pick, (0, 0), self.total((2, y), (1, f.num(2)))), z)
        self.assertEqual(f.put(f.put(pick, (0, 0), z), (0, 1), z), z)
        self.assertEqual(f.put(pick, (1, 4), x), f.pick(f.plus(x, y), [x, y, x]))
        self.assertEqual(f.put(f.times(pick, pick), (0, 0), f.minus(f.num(1), y)), f.times(y, y))

    def test_tests_within_tests_and_picks_within_picks(self):
        f, x, y, z = self.forms, self.x, self.y, self.z
        inner = f.below(x, y)
        outer = f.same(f.plus(inner, z), f.num(1))
        pick = f.pick(f.pick(outer, [x, z]), [outer, f.pick(inner, [y, x]), z])
        self.assertEqual(f.put(outer, (0, 0), y), f.same(z, f.num(1)))
        self.assertEqual(f.put(outer, (0, 0), f.minus(y, f.num(1))), f.same(z, f.num(0)))
        self.assertEqual(f.put(f.put(outer, (0, 0), y), (1, 4), f.num(1)), f.num(1))
        self.assertEqual(f.leaves_in(pick), [(0, 0), (0, 1), (1, 4)])
        # y for x: the tests within become 0 and "z is 1"; then with 1 for z the pick of picks is as y picks.
        last = f.put(f.put(pick, (0, 0), y), (1, 4), f.num(1))
        self.assertEqual(last, f.pick(f.num(1), [f.num(1), y, f.num(1)]))
        self.assertEqual(f.put(pick, (1, 4), f.plus(inner, z)),
                         f.pick(f.pick(f.same(self.total((2, inner), (1, z)), f.num(1)), [x, f.plus(inner, z)]),
                                [f.same(self.total((2, inner), (1, z)), f.num(1)), f.pick(inner, [y, x]),
                                 f.plus(inner, z)]))

    def test_a_long_chain(self):
        f = self.forms
        first = self.x
        for k in range(2000):
            first = f.pick(f.same(first, f.num(k % 3)), [self.y, f.plus(first, f.num(1))])
        self.assertEqual(f.leaves_in(first), [(0, 0), (0, 1)])
        worth = 1
        for k in range(2000):
            worth = worth + 1 if worth == k % 3 else 0
        self.assertEqual(f.worth(first, {(0, 0): 1, (0, 1): 0}), worth)
        self.assertEqual(f.number_in(f.put(f.put(first, (0, 1), f.num(0)), (0, 0), f.num(1))), worth)


class SideBySide(unittest.TestCase):
    def test_each_keeps_its_own(self):
        one, other = Forms(), Forms()
        a, b = one.leaf((0, 0)), one.leaf((0, 1))
        c = other.num(7)
        d = other.leaf((5, 5))
        self.assertEqual(one.leaves_in(one.plus(a, b)), [(0, 0), (0, 1)])
        self.assertEqual(other.leaves_in(other.plus(c, d)), [(5, 5)])
        self.assertEqual(other.worth(other.times(c, d), {(5, 5): 3}), 21)
        self.assertEqual(one.worth(one.times(a, b), {(0, 0): 3, (0, 1): 4}), 12)
        self.assertEqual(one.leaf((0, 0)), a)
        self.assertEqual(other.leaf((5, 5)), d)


class DrawnOnes(unittest.TestCase):
    def setUp(self):
        rng = Random(91)
        self.expressions = [drawn(rng, rng.randrange(1, 5)) for k in range(700)]
        self.worths = [{name: rng.randrange(-6, 7) for name in NAMES} for k in range(12)]

    def test_alike_just_where_told(self):
        forms = Forms()
        numbers = [made(forms, expression) for expression in self.expressions]
        slow = [made(slowforms, expression) for expression in self.expressions]
        firsts = {}
        for number, form, expression in zip(numbers, slow, self.expressions):
            self.assertEqual(firsts.setdefault(form, number), number, expression)
            self.assertEqual(forms.number_in(number), slowforms.number_in(form), expression)
            self.assertEqual(forms.leaves_in(number), slowforms.leaves_in(form), expression)
        self.assertEqual(len(set(firsts.values())), len(firsts))

    def test_worth_as_written(self):
        forms = Forms()
        for expression in self.expressions:
            number = made(forms, expression)
            for worths in self.worths:
                self.assertEqual(forms.worth(number, worths), reckoned(expression, worths), expression)

    def test_put_is_as_made_with_it(self):
        rng, forms = Random(92), Forms()
        for expression in self.expressions:
            name, other = rng.choice(NAMES), drawn(rng, rng.randrange(3))
            told = forms.put(made(forms, expression), name, made(forms, other))
            self.assertEqual(told, made(forms, with_put(expression, name, other)), (expression, name, other))

    def test_the_same_is_told_again(self):
        forms = Forms()
        first = [made(forms, expression) for expression in self.expressions]
        self.assertEqual([made(forms, expression) for expression in reversed(self.expressions)], first[::-1])


if __name__ == "__main__":
    unittest.main()
