"""Strikehall: bounds found by strikes."""
