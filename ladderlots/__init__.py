"""Ladderlots: lots drawn by ladders."""
