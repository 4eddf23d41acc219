"""Trees: what shows that no mend suits and works."""

from stopsfirst.mending import asked_wish
from stopsfirst.repairs import is_tree, tree_for


def mend_tree(book, sort, keep, most):
    return tree_for(asked_wish(book, sort, keep, most))


def tree_holds(book, sort, keep, most, value):
    return is_tree(asked_wish(book, sort, keep, most), value)
