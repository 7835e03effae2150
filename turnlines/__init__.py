"""Lines cut in stretches and put together in another order."""
