"""Wholestakes: whole coins laid on the next letter."""
