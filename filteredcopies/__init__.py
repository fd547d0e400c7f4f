"""Copies of a table through filters and column lists, decided for all histories."""
