"""Plaits of strands: their words and moves, their order, their forms."""
