"""Stones that fall along the rows of a tree."""
