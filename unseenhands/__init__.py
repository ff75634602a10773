"""Hands that nobody has seen, counted exactly; unseenhands.table.answers is the way in."""
