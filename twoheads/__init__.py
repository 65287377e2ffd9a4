"""Twoheads: loops over two ascending rows, judged for all rows."""
