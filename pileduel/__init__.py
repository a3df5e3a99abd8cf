"""Pileduel: two hands at a pile, and which of them brings a saying about."""
