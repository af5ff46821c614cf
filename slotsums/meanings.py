"""Meanings: expressions whose factors can stand for earlier definitions, multiplied out.

The meanings are a dict from the names of definitions to Expressions over base tables. A row is a tuple (told, factors,
number) as in products.py: a term whose names are no NAMEs yet.
"""

from slotsums.agreement import MOST_TERMS, check_limits
from slotsums.asking import asked_terms
from slotsums.errors import InvalidSum, TooMany
from slotsums.forms import form_of
from slotsums.products import as_one, lettered_term, names_of, renamed_factors, renamed_told


def many_rows(term, meanings):
    """How many terms a term becomes if it is multiplied out."""
    found = 1
    for table, names in term.factors():
        if table.name in meanings:
            found = found * len(meanings[table.name].terms())
    return found


def with_factor(row, pairs, factor):
    """A tuple (row, pairs) with one more factor, which stands for no definition."""
    told, factors, number = row
    return (told, factors + [factor], number), pairs


def with_term(row, pairs, names, inner, mark):
    """A tuple (row, pairs) with the term of a meaning instead of a factor; its own names get a mark.

    The pairs are the names that become one: those of the factor, and those that the term tells at their positions.
    """
    told, factors, number = row
    new = {name: f"{mark} {name}" for name in inner.names()}
    more = [(name, new[own]) for name, (own, sort) in zip(names, inner.told())]
    return (told, factors + renamed_factors(inner.factors(), new), number * inner.number), pairs + more


def multiplied_out(term, meanings):
    """The rows that a term becomes, with the pairs of names that become one in each."""
    found = [((list(term.told()), [], term.number), [])]
    for position, (table, names) in enumerate(term.factors()):
        if table.name in meanings:
            found = [with_term(row, pairs, names, inner, position) for row, pairs in found
                     for inner in meanings[table.name].terms()]
        else:
            found = [with_factor(row, pairs, (table, names)) for row, pairs in found]
    return found


def merged_row(term, row, pairs):
    """The row in which the names of each pair are one; None if a name that is not told would be in no factor."""
    told, factors, number = row
    inner_names = [name for pair in pairs for name in pair]
    names = as_one(term.names() + names_of(row) + inner_names, pairs)
    merged = renamed_told(told, names), renamed_factors(factors, names), number
    staying = names_of(merged)
    if any([name not in staying for name in list(names.values())]):
        return None
    return merged


def rows_of(position, term, meanings):
    """The rows that a term of the definition at a position becomes; a sum over a name in no factor is refused."""
    found = [merged_row(term, row, pairs) for row, pairs in multiplied_out(term, meanings)]
    if any([row is None for row in found]):
        raise InvalidSum(position)
    return found


def check_rows(rows):
    """Refuse rows with too many factors or names."""
    most_factors = max([len(factors) for told, factors, number in rows], default=0)
    most_names = max([len(names_of(row)) for row in rows], default=0)
    check_limits(0, most_factors, most_names, 0)


def check_many_rows(many):
    """Refuse too many terms of a definition, as it is written or multiplied out."""
    if many > MOST_TERMS:
        raise TooMany("terms", MOST_TERMS)


def meaning_of(position, expression, meanings):
    """The meaning of the expression of the definition at a position, with the meanings of all earlier ones."""
    terms = asked_terms(expression)
    check_many_rows(sum([many_rows(term, meanings) for term in terms]))
    rows = [row for term in terms for row in rows_of(position, term, meanings)]
    check_rows(rows)
    return form_of(expression.sorts(), [lettered_term(row) for row in rows])
