"""Tenanthall: a hall of many tenants, each as if it were alone."""
