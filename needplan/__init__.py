"""Needplan: what must be made, and when."""
