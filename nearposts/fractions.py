"""Fractions: tuples (top, bottom) in lowest terms, bottom from 1 on."""


def common_divisor(one, other):
    while other != 0:
        rest = one % other
        one = other
        other = rest
    return one


# A bottom from 1 on is asked for: it keeps the divisor above 0, whatever the top.
def fraction_of(top, bottom):
    divisor = common_divisor(top, bottom)
    return (top // divisor, bottom // divisor)


# Bottoms are above 0, so multiplying both sides by them keeps the order.
def is_below(one, other):
    return one[0] * other[1] < other[0] * one[1]


def least_of(several):
    least = several[0]
    for each in several:
        if is_below(each, least):
            least = each
    return least


def greatest_of(several):
    greatest = several[0]
    for each in several:
        if is_below(greatest, each):
            greatest = each
    return greatest


# Two unlike fractions are at least one over the product of their bottoms apart, so with
# this scale the whole numbers that they are sorted by are unlike too.
def scale_for(several):
    greatest_bottom = max([each[1] for each in several], default=1)
    return greatest_bottom * greatest_bottom


def scaled(fraction, scale):
    return fraction[0] * scale // fraction[1]


def rising_unlike(several):
    scale = scale_for(several)
    return sorted(sorted(set(several)), key=lambda each: scaled(each, scale))


def places_by_size(several):
    scale = scale_for(several)
    return sorted(range(len(several)), key=lambda place: scaled(several[place], scale))
