"""Greatrows: endless and great rows, asked for one thing at a time."""
