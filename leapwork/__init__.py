"""Leapwork: sworn works, and whose every break is."""
