"""Products of expressions, and what is done to one told position."""

from slotsums.agreement import check_limits, check_tables
from slotsums.errors import InvalidHeld, InvalidName, InvalidOrder, InvalidPosition, InvalidSum
from slotsums.expressions import Expression
from slotsums.kinds import is_list, is_name, is_order, is_pair, is_position
from slotsums.rows import different, without
from slotsums.terms import Term

# One more than a term can have, so that a name is always left over.
LETTERS = "abcdefgh"


def check_held(held, one, other):
    """Refuse what is no list of positions of the second row, each once, held to the first row."""
    if not is_list(held):
        raise InvalidHeld(None)
    before = []
    for position, pair in enumerate(held):
        if not is_pair(pair) or not is_position(pair[0], len(one)) or not is_position(pair[1], len(other)):
            raise InvalidHeld(position)
        if one[pair[0]] != other[pair[1]] or pair[1] in before:
            raise InvalidHeld(position)
        before.append(pair[1])


def check_position(position, sorts):
    """Refuse what is no position of a told row."""
    if not is_position(position, len(sorts)):
        raise InvalidPosition(position)


def as_one(names, pairs):
    """A dict from names to names, in which both names of each pair go to one."""
    found = {name: name for name in names}
    for kept, gone in pairs:
        stays, goes = found[kept], found[gone]
        found = {name: stays if found[name] == goes else found[name] for name in found}
    return found


def renamed_told(told, names):
    """The told row with other names."""
    return [(names[name], sort) for name, sort in told]


def renamed_factors(factors, names):
    """The factors with other names."""
    return [(table, tuple([names[name] for name in own])) for table, own in factors]


def names_of(row):
    """All names of a row (told, factors, number), each once."""
    told, factors, number = row
    return different([name for name, sort in told] + [name for table, names in factors for name in names])


def product_row(left, right, held):
    """A tuple (told, factors, number) of the product of two terms; its names are no NAMEs yet."""
    lefts = {name: f"left {name}" for name in left.names()}
    rights = {name: f"right {name}" for name in right.names()}
    one, other = renamed_told(left.told(), lefts), renamed_told(right.told(), rights)
    pairs = [(one[to][0], other[at][0]) for to, at in held]
    merged = as_one(list(lefts.values()) + list(rights.values()), pairs)
    held_at = [at for to, at in held]
    told = one + [other[at] for at in range(len(other)) if at not in held_at]
    factors = renamed_factors(left.factors(), lefts) + renamed_factors(right.factors(), rights)
    return renamed_told(told, merged), renamed_factors(factors, merged), left.number * right.number


def lettered_term(row):
    """The Term of a row, with letters as names."""
    told, factors, number = row
    letters = dict(zip(names_of(row), LETTERS))
    return Term(renamed_told(told, letters), renamed_factors(factors, letters), number)


def product_of(one, other, held=()):
    """The product, with some positions of the second expression held to positions of the first one."""
    check_tables(one.tables() + other.tables())
    check_held(held, one.sorts(), other.sorts())
    held_at = [pair[1] for pair in held]
    free = [sort for at, sort in enumerate(other.sorts()) if at not in held_at]
    sorts = list(one.sorts()) + free
    rows = [product_row(left, right, held) for left in one.terms() for right in other.terms()]
    most_factors = max([len(factors) for told, factors, number in rows], default=0)
    most_names = max([len(names_of(row)) for row in rows], default=0)
    check_limits(len(sorts), most_factors, most_names, len(rows))
    return Expression(sorts, [lettered_term(row) for row in rows])


def summed_over(expression, position):
    """The expression summed over all places of one told position, which goes."""
    check_position(position, expression.sorts())
    for term in expression.terms():
        name = term.told()[position][0]
        if name in term.lone_names() and [own for own, sort in term.told()].count(name) == 1:
            raise InvalidSum(position)
    terms = [Term(without(term.told(), position), term.factors(), term.number) for term in expression.terms()]
    return Expression(without(expression.sorts(), position), terms)


def row_turned(expression, order):
    """The expression with its told positions in another order."""
    sorts = expression.sorts()
    if not is_list(order) or not is_order(order, len(sorts)):
        raise InvalidOrder(order)
    terms = [Term([term.told()[at] for at in order], term.factors(), term.number) for term in expression.terms()]
    return Expression([sorts[at] for at in order], terms)


def doubled_at(expression, position):
    """The expression with one more position, the last one, that has the place of the given one."""
    check_position(position, expression.sorts())
    terms = [Term(term.told() + (term.told()[position],), term.factors(), term.number)
             for term in expression.terms()]
    return Expression(expression.sorts() + (expression.sorts()[position],), terms)


def held_term(term, position, other):
    """The term in which the other position goes, and its name becomes that of the position."""
    told = term.told()
    names = as_one(term.names(), [(told[position][0], told[other][0])])
    row = renamed_told(without(told, other), names)
    return Term(row, renamed_factors(term.factors(), names), term.number)


def held_equal(expression, position, other):
    """The expression where the other position, which goes, has the place of the position."""
    sorts = expression.sorts()
    check_position(position, sorts)
    check_position(other, sorts)
    if other == position or sorts[other] != sorts[position]:
        raise InvalidPosition(other)
    terms = [held_term(term, position, other) for term in expression.terms()]
    return Expression(without(sorts, other), terms)


def spread_term(term, sort):
    """The term with one more told position, whose name is lone."""
    names = term.names()
    fresh = [letter for letter in LETTERS if letter not in names]
    return Term(term.told() + ((fresh[0], sort),), term.factors(), term.number)


def spread_along(expression, sort):
    """The expression with one more position, the last one, on whose place its value does not depend."""
    if not is_name(sort):
        raise InvalidName(sort)
    return Expression(expression.sorts() + (sort,), [spread_term(term, sort) for term in expression.terms()])
