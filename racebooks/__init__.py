"""Racebooks: sure gains, chances that bar them, and the odds of pools."""
