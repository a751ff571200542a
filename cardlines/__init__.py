"""Cardlines: cards of a strip led to lines of a pattern in few bytes."""
