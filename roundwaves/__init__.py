"""roundwaves: roundings one behind the other."""
