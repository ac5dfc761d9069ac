"""Deadlane: a lane from which a called car leaves with all cars behind it."""
