"""The integers that fulfil some equations, and what shows that there are none.

Each name of a form stands for a sum of basis numbers, which are integers themselves. An equation fixes
one of them and leaves the others free.
"""

from sourceback.forms import CONSTANT
from sourceback.ratios import NOTHING, beyond_whole, plus, ratio, times


class Equation:
    """An equation that fixed a basis number: its name, this number, its factor, those of the numbers fixed ahead."""

    def __init__(self, name, basis, factor, fixed):
        self.name = name
        self.basis = basis
        self.factor = factor
        self.fixed = fixed


class Lattice:
    """The integers that fulfil the equations that were added, each of which says that a form is 0."""

    def __init__(self):
        # The factors of the basis numbers, by names.
        self.sums = {}
        # The values of those that are fixed.
        self.worths = {}
        self.equations = []
        self.many = 0

    def sum_of(self, name):
        """The factors of the basis numbers in a name; a name of which nothing is known is one itself."""
        if name not in self.sums:
            self.sums[name] = {self.many: 1}
            self.many += 1
        return self.sums[name]

    def parts_of(self, form):
        """The factors of the fixed and of the free basis numbers in a form."""
        fixed = {}
        free = {}
        for name, many in form.items():
            if name != CONSTANT:
                for basis, factor in self.sum_of(name).items():
                    part = fixed if basis in self.worths else free
                    part[basis] = part.get(basis, 0) + many * factor
        return without_zeros(fixed), without_zeros(free)

    def fixed_value(self, form, fixed):
        """The value of a form without its free part."""
        return form[CONSTANT] + sum([factor * self.worths[basis] for basis, factor in fixed.items()])

    def fulfil(self, name, form):
        """Add an equation; if none of the integers fulfils it, return the fractions of equations that show it."""
        fixed, free = self.parts_of(form)
        left = -self.fixed_value(form, fixed)
        basis = self.gather(free)
        factor = free.get(basis, 0)
        if factor == 0 and left == 0:
            return None
        if factor == 0 or left % factor != 0:
            # Any fraction of which the constant is no integer does if nothing is free.
            return self.blamed(name, fixed, ratio(1, factor if factor != 0 else undivided(left)))
        self.worths[basis] = left // factor
        self.equations.append(Equation(name, basis, factor, fixed))
        return None

    def gather(self, free):
        """Choose the free basis numbers so that only one is left in a sum of them; return it, or None."""
        while len(free) > 1:
            least = min([abs(factor) for factor in free.values()])
            basis = [number for number in free if abs(free[number]) == least][0]
            others = [number for number in free if number != basis]
            for other in others:
                many = free[other] // free[basis]
                free[other] -= many * free[basis]
                self.turn(basis, other, many)
                if free[other] == 0:
                    del free[other]
        return list(free)[0] if free else None

    def turn(self, basis, other, many):
        """Let a basis number stand for itself and so many times another one."""
        for parts in self.sums.values():
            if basis in parts:
                parts[other] = parts.get(other, 0) - many * parts[basis]
                if parts[other] == 0:
                    del parts[other]

    def blamed(self, name, fixed, share):
        """The fractions of equations, with this share of one of them, in whose sum all factors are integers."""
        shares = {name: share}
        left = {basis: times(share, (factor, 1)) for basis, factor in fixed.items()}
        for equation in self.equations[::-1]:
            part = beyond_whole(times(left.get(equation.basis, NOTHING), ratio(1, equation.factor)))
            if part != NOTHING:
                shares[equation.name] = (-part[0], part[1])
                take_share(left, part, equation)
        return shares

    def explained(self, form):
        """The fractions of equations whose sum is a form, if it is 0 for all of the integers, or else None."""
        fixed, free = self.parts_of(form)
        if free or self.fixed_value(form, fixed) != 0:
            return None
        shares = {}
        left = {basis: (factor, 1) for basis, factor in fixed.items()}
        for equation in self.equations[::-1]:
            part = times(left.get(equation.basis, NOTHING), ratio(1, equation.factor))
            if part != NOTHING:
                shares[equation.name] = part
                take_share(left, part, equation)
        return shares

    def solved(self, apart, near):
        """Integers by names that fulfil all equations, for which no form that is to be another one than 0 is 0.

        Where there is a choice they are near what near has for them, or near 0.
        """
        worths = {basis: worth for basis, worth in self.worths.items()}
        for form in apart:
            # So that all of its names have basis numbers.
            self.parts_of(form)
        free = [basis for basis in range(self.many) if basis not in worths]
        for at, basis in enumerate(free):
            worths[basis] = 0
            open_yet = free[at + 1:]
            barred = [self.barred(form, worths, basis, open_yet) for form in apart]
            middle = self.middle(basis, worths, near)
            tries = [middle + part for away in range(len(apart) + 1) for part in (away, -away)]
            worths[basis] = [number for number in tries if number not in barred][0]
        return {name: total_of(parts, worths) for name, parts in self.sums.items()}

    def barred(self, form, worths, basis, later):
        """The value of a basis number for which a form is 0, if the numbers that come later do not count."""
        fixed, free = self.parts_of(form)
        if basis not in free or any([other in free for other in later]):
            return None
        rest = form[CONSTANT] + total_of(fixed, worths) + total_of(free, worths)
        return -rest // free[basis] if rest % free[basis] == 0 else None

    def middle(self, basis, worths, near):
        """The value of a basis number with which all names are as near as can be to what they should be."""
        pull = 0
        weight = 0
        for name, parts in self.sums.items():
            if basis in parts:
                pull += parts[basis] * (near.get(name, 0) - total_of(parts, worths))
                weight += parts[basis] * parts[basis]
        return (2 * pull + weight) // (2 * weight)


def total_of(parts, worths):
    """The sum of basis numbers with their factors, without those that have no value yet."""
    return sum([factor * worths.get(basis, 0) for basis, factor in parts.items()])


def take_share(left, part, equation):
    """Take a fraction of an equation from the factors of fixed basis numbers."""
    for basis, factor in equation.fixed.items():
        left[basis] = plus(left.get(basis, NOTHING), times(part, (-factor, 1)))


def undivided(number):
    """The least integer from 2 that does not divide a number other than 0."""
    found = 2
    while number % found == 0:
        found += 1
    return found


def without_zeros(factors):
    """The factors other than 0."""
    return {basis: factor for basis, factor in factors.items() if factor != 0}
