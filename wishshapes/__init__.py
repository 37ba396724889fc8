"""Wishshapes: when no fence is too weak, and all wishes can be met."""
