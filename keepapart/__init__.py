"""Cheapest shifts with which no two of several recurring jobs ever run at once."""
