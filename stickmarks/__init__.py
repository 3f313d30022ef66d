"""Stickmarks: a text with marks that stick to its signs."""
