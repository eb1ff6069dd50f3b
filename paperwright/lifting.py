"""Parts by a prime, lifted to parts by a power of it."""

from paperwright.moduli import divided_by, greatest_by, minus_by, plus_by, reduced, times_by


# A monic row that is the product of two monic ones by a modulus, with these and their cofactors.
# At first the modulus is a prime by which the two have no common divisor; each step squares it.
class Pair:
    def __init__(self, product, one, other, prime):
        divisor, u, v = greatest_by(one, other, prime)
        self.product = product
        self.one = one
        self.other = other
        self.one_factor = u
        self.other_factor = v
        self.modulus = prime

    def step(self):
        self.modulus = self.modulus * self.modulus
        self.lift_parts(self.modulus)
        self.lift_factors(self.modulus)

    def lift_parts(self, modulus):
        missing = minus_by(self.product, times_by(self.one, self.other, modulus), modulus)
        quotient, rest = divided_by(times_by(self.one_factor, missing, modulus), self.other, modulus)
        gain = times_by(self.other_factor, missing, modulus)
        gain = plus_by(gain, times_by(quotient, self.one, modulus), modulus)
        self.one = plus_by(self.one, gain, modulus)
        self.other = plus_by(self.other, rest, modulus)

    def lift_factors(self, modulus):
        total = plus_by(
            times_by(self.one_factor, self.one, modulus), times_by(self.other_factor, self.other, modulus), modulus,
        )
        beyond = minus_by(total, [1], modulus)
        quotient, rest = divided_by(times_by(self.one_factor, beyond, modulus), self.other, modulus)
        loss = times_by(self.other_factor, beyond, modulus)
        loss = plus_by(loss, times_by(quotient, self.one, modulus), modulus)
        self.one_factor = minus_by(self.one_factor, rest, modulus)
        self.other_factor = minus_by(self.other_factor, loss, modulus)


# Of a monic row by a power of the prime and its unlike monic parts by the prime: its parts by that power.
def lifted(row, parts, prime, modulus):
    told = []
    for place, part in enumerate(parts[:-1]):
        other = [1]
        for further in parts[place + 1:]:
            other = times_by(other, further, prime)
        pair = Pair(row, part, other, prime)
        while pair.modulus < modulus:
            pair.step()
        told.append(reduced(pair.one, modulus))
        row = reduced(pair.other, modulus)
    return told + [row]
