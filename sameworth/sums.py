"""Sums of products, multiplied out, and what is told of their tests.

A sum is a dict from a product to the number ahead of it, which isn't 0. A product is a tuple of
atoms from the least up, each as often as it stands; the empty one is a number alone. Atoms are
numbers here: what they stand for, who asks knows.
"""


def number_sum(number):
    return {(): number} if number != 0 else {}


def atom_sum(atom):
    return {(atom,): 1}


def without_noughts(numbers):
    return {product: number for product, number in numbers.items() if number != 0}


def add_into(numbers, total, many):
    """Add so many times a sum to numbers ahead of products, in place, noughts being left there."""
    for product, number in total.items():
        numbers[product] = numbers.get(product, 0) + many * number


def joined(one, other, many):
    """A sum and so many times another one."""
    numbers = {product: one[product] for product in one}
    add_into(numbers, other, many)
    return without_noughts(numbers)


def multiplied(one, other):
    numbers = {}
    for left, many in one.items():
        for right, number in other.items():
            product = tuple(sorted(left + right))
            numbers[product] = numbers.get(product, 0) + many * number
    return without_noughts(numbers)


def atoms_in(total):
    """The rising list of the atoms in a sum's products."""
    return sorted({atom for product in total for atom in product})


def number_alone(total):
    """The number that a sum is, None of others."""
    if all(product == () for product in total):
        return total.get((), 0)
    return None


def replaced(total, becomes):
    """A sum with atoms replaced, wherever they stand, by the sums that a dict has for them."""
    powers = {}
    numbers = {}
    for product, number in total.items():
        whole = {tuple([atom for atom in product if atom not in becomes]): 1}
        for atom in sorted(set(product)):
            if atom in becomes:
                ready = powers.setdefault(atom, [number_sum(1)])
                whole = multiplied(whole, power(ready, becomes[atom], product.count(atom)))
        add_into(numbers, whole, number)
    return without_noughts(numbers)


def power(powers, total, many):
    """A sum multiplied so often, by the list of its powers so far, which is lengthened in place."""
    while len(powers) <= many:
        powers.append(multiplied(powers[-1], total))
    return powers[many]


def worth_by(total, worths):
    """A sum's worth by its atoms' worths."""
    whole = 0
    for product, number in total.items():
        worth = number
        for atom in product:
            worth *= worths[atom]
        whole += worth
    return whole


def rests(total, many):
    """A sum with each number ahead replaced by its rest."""
    return without_noughts({product: number % many for product, number in total.items()})


def common_divisor(one, other):
    while other != 0:
        one, other = other, one % other
    return abs(one)


def divisor_of(total):
    """The greatest number that divides all numbers ahead of products but the empty one; 0 of numbers."""
    divisor = 0
    for product, number in total.items():
        if product != ():
            divisor = common_divisor(divisor, number)
    return divisor


def told_same(difference):
    """1 or 0 where it's known whether a difference is 0, else None."""
    number = number_alone(difference)
    if number is not None:
        return 1 if number == 0 else 0
    return None if difference.get((), 0) % divisor_of(difference) == 0 else 0


def told_below(difference):
    """1 or 0 where it's known whether a difference is above 0, else None."""
    number = number_alone(difference)
    if number is not None:
        return 1 if number > 0 else 0
    return None


def same_core(difference):
    """The sum that is 0 just where a difference is: one for all its multiples, turned in sign too."""
    divisor = divisor_of(difference)
    if difference[min(difference)] < 0:
        divisor = -divisor
    return {product: number // divisor for product, number in difference.items()}


def below_core(difference):
    """The sum that is 0 or more just where a difference is above 0: one for all such differences."""
    divisor = divisor_of(difference)
    # Above 0 is 1 or more: one is taken off, and what a whole multiple can't reach is cut off.
    core = joined(difference, number_sum(1), -1)
    return without_noughts({product: number // divisor for product, number in core.items()})
