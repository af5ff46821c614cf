"""What terms and expressions that are asked as questions must be like."""

from slotsums.agreement import check_agree
from slotsums.errors import ChangesSign


def asked_terms(expression):
    """The list of the terms of an expression whose number is not 0; the others have no part in a question."""
    return [term for term in expression.terms() if term.number.sign != 0]


def check_keep_sign(terms):
    """Refuse terms with a table that changes its sign."""
    names = [table.name for term in terms for table, own in term.factors() if table.changes_sign]
    if names:
        raise ChangesSign(min(names))


def check_questions(one, other):
    """Refuse two expressions that do not agree or that are no questions."""
    check_agree(one, other)
    check_keep_sign(asked_terms(one) + asked_terms(other))
