"""Seats changed by told moves, and every seating that they lead to."""
