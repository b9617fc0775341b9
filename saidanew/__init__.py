"""Saidanew: made words that run in the writer's own words."""
