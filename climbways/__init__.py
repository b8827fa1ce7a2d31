"""Climbways: the longest rising ways in a table of numbers."""
