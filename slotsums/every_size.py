"""Costs and spaces of plans as sizes grow, and the best plans at every size."""

from slotsums.growths import check_growth, leading_plans, monomial, rows_of_names
from slotsums.kinds import is_an_integer, is_list
from slotsums.planning import kept_sets
from slotsums.plans import check_has_factors, check_plan, is_plan, tuples_of
from slotsums.polynomials import Polynomial, sign_runs


def power_of(number, exponent):
    """The polynomial number times d ** exponent."""
    coefficients = [0] * exponent + [number]
    return Polynomial(*coefficients)


def cost_at_d(term, plan, growth):
    """The cost of the plan as a polynomial."""
    found = Polynomial()
    for names, kept in tuples_of(term, plan):
        number, exponent = monomial(names, term, growth)
        found = found + power_of(number, exponent)
    return found


def cost_polynomial(term, plan, growth):
    """The polynomial whose value at each d is the cost of the plan."""
    check_plan(term, plan)
    check_growth(term, growth)
    return cost_at_d(term, plan, growth)


def first_at_least(higher, lower):
    """The first d at which a power of d, times a number, is at least one with a lower exponent, times another one."""
    return min([start for start, sign in sign_runs(higher - lower) if sign >= 0])


def greatest_at(spaces, d):
    """The polynomial with the greatest value at d, of several the one with the highest degree."""
    return max(spaces, key=lambda space: (space.at(d), space.degree))


def above(spaces, lower):
    """The polynomials with a higher degree than a given one."""
    return [space for space in spaces if space.degree > lower.degree]


def space_pieces(term, plan, growth):
    """The list of tuples (start, polynomial): from which d on which polynomial is the space of the plan."""
    check_plan(term, plan)
    check_growth(term, growth)
    monomials = [monomial(kept, term, growth) for names, kept in tuples_of(term, plan)]
    if not monomials:
        return [(1, Polynomial())]
    spaces = [power_of(number, exponent) for number, exponent in monomials]
    last = greatest_at(spaces, 1)
    found = [(1, last)]
    # Only a higher power can become the greatest one later.
    waiting = above(spaces, last)
    while waiting:
        start = min([first_at_least(space, last) for space in waiting])
        last = greatest_at(waiting, start)
        found.append((start, last))
        waiting = above(waiting, last)
    return found


def first_ahead(candidate, last, d):
    """The first number behind d at which a (cost, code, plan) comes ahead of the last one; None if there is none."""
    runs = sign_runs(candidate[0] - last[0])
    ends = [start for start, sign in runs[1:]] + [None]
    for (start, sign), end in zip(runs, ends):
        first = max(start, d + 1)
        if (sign == -1 or (sign == 0 and candidate[1] < last[1])) and (end is None or first < end):
            return first
    return None


def best_at_d(term, growth):
    """The list of tuples (start, plan, cost): from which d on which plan is the first one of least cost."""
    leading = leading_plans(len(term.factors()), kept_sets(term), rows_of_names(term, growth))
    candidates = [(Polynomial(*row), code, plan) for row, code, plan in leading]
    found = []
    d = 1
    while d is not None:
        costs = [(cost.at(d), code) for cost, code, plan in candidates]
        last = candidates[costs.index(min(costs))]
        found.append((d, last[2], last[0]))
        starts = [first_ahead(candidate, last, d) for candidate in candidates]
        d = min([start for start in starts if start is not None], default=None)
    return found


def best_plans(term, growth):
    """The list of tuples (start, plan, cost): from which d on which plan is the first one of least cost."""
    check_has_factors(term)
    check_growth(term, growth)
    return best_at_d(term, growth)


def is_piece(term, growth, value):
    """Whether the value is a tuple (start, plan, cost) of a plan and its cost."""
    if not isinstance(value, tuple) or len(value) != 3:
        return False
    start, plan, cost = value
    if not is_an_integer(start) or not isinstance(cost, Polynomial) or not is_plan(term, plan):
        return False
    return cost == cost_at_d(term, plan, growth)


def have_common(start, end, low, high):
    """Whether two stretches of numbers have one in common; they end ahead of end and high, or never for None."""
    latest = max(start, low)
    return (end is None or latest < end) and (high is None or latest < high)


def with_ends(pieces):
    """The pieces as tuples (start, end, cost)."""
    ends = [piece[0] for piece in pieces[1:]] + [None]
    return [(piece[0], end, piece[-1]) for piece, end in zip(pieces, ends)]


def are_equal_between(cost, other, low, high):
    """Whether two polynomials have equal values from low on, ahead of high."""
    for start, end, sign in with_ends(sign_runs(cost - other)):
        if sign != 0 and have_common(start, end, low, high):
            return False
    return True


def is_best_plans(term, growth, value):
    """Whether the value is a list of best plans."""
    check_has_factors(term)
    check_growth(term, growth)
    if not is_list(value) or not value or not all([is_piece(term, growth, piece) for piece in value]):
        return False
    starts = [piece[0] for piece in value]
    if starts[0] != 1 or any([starts[at] >= starts[at + 1] for at in range(len(starts) - 1)]):
        return False
    for low, high, least in with_ends(best_at_d(term, growth)):
        for start, end, cost in with_ends(value):
            if have_common(start, end, low, high):
                until = high if end is None or (high is not None and high < end) else end
                if not are_equal_between(cost, least, max(start, low), until):
                    return False
    return True


def changing_points(term, plan, other, growth):
    """The sign runs of the cost of one plan less that of the other."""
    check_plan(term, plan)
    check_plan(term, other)
    check_growth(term, growth)
    return sign_runs(cost_at_d(term, plan, growth) - cost_at_d(term, other, growth))


def last_exponent(term, growth):
    """The degree of the cost of the best plan from the last start on."""
    return best_plans(term, growth)[-1][2].degree
