"""Flutterheld: a tape house that reads back what it wrote, however the reels flutter."""
