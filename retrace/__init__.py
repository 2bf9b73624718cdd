"""Retrace: runs looked into, backward and forward."""
