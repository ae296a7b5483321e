"""Otherfirst: tasks of one or two nodes, and no task twice running."""
