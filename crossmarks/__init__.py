"""Crossmarks: marks on strings that come down in families."""
