"""Surestretch: what counted trials say of a true share."""
