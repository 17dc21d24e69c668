"""Rowsinplace: calls that renumber the rows of lists, decided for all lists."""
