"""Swapbook: what a book of swaps makes worth the same."""
