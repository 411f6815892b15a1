"""Ways to draw an order by lot, and when they are even."""
