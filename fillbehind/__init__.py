"""Fillbehind: filling a new column of a table while others write."""
