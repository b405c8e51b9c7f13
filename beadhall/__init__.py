"""Beadhall: bowls of beads, doors that take and give, and a paper beside every answer."""
