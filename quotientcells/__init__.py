"""Quotientcells: dividers that take one digit a step from a table."""
