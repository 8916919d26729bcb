"""Nesthall: rooms within rooms, and doors that events open."""
