"""Tickrows: waves drawn in rows."""
