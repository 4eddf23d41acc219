"""Bent plans with fewer changes, and plans that stop everything ahead or start everything ahead."""

from stopsfirst.basics import without_repeats
from stopsfirst.bending import joins_so_far, meets_so_far, tail_masks
from stopsfirst.plans import plan_masks


def merged_plan(bent):
    if len(bent.plan) <= 2:
        return bent.plan
    return (bent.plan[0], *bent.climb[1:-1], bent.plan[-1])


def short_plan(bent):
    climb = without_repeats(bent.climb)
    return tuple(without_repeats([bent.plan[0], *climb[1:-1], bent.plan[-1]]))


def down_up(book, plan):
    steps = plan_masks(book, plan)
    return told_if_allowed(book.grid(), meets_so_far(steps) + tail_masks(steps)[1:])


def up_down(book, plan):
    steps = plan_masks(book, plan)
    backwards = joins_so_far(list(reversed(steps)))
    return told_if_allowed(book.grid(), joins_so_far(steps) + list(reversed(backwards))[1:])


def told_if_allowed(grid, masks):
    if not all([grid.allowed[mask] for mask in masks]):
        return None
    return grid.in_turn(masks)
