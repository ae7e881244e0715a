/- THE PACKAGE event: its contracts (event_filter, event_restrict, event_last, event_fold, event_cut), gathered -/
import Derived.Test.YtadlccdmbnimaaaIn
import Derived.Test.YtadlccdmbnimaaaEvFil
import Derived.Test.YtadlccdmbnimaaaEvLst
import Derived.Test.YtadlccdmbnimaaaEvCutP
