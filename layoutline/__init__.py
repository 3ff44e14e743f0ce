"""Layoutline: classes whose objects are laid out once."""
