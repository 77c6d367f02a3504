"""Pairings of points along a line, their crossings and nestings."""
