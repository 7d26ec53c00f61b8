"""Deskcards: doors that learn from cards alone."""
