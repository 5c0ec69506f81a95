"""Starward: where a camera looks, told by the stars that it sees."""
