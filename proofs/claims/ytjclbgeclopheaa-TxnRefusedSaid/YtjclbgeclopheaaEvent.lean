/- THE PACKAGE event: its contracts (event_filter, event_restrict, event_last, event_fold, event_cut), gathered -/
import Derived.Test.YtjclbgeclopheaaIn
import Derived.Test.YtjclbgeclopheaaEvFil
import Derived.Test.YtjclbgeclopheaaEvLst
import Derived.Test.YtjclbgeclopheaaEvCutP
