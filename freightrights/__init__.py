"""Freightrights: freight of one good on a line net, and who has a right to it."""
