"""Programs that are changed so that every name keeps its meaning."""
