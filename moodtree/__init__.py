"""Moodtree: moods within moods, run as they stand and run flat."""
