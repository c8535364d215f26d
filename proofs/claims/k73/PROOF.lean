import PyProof.Rows.All
import Wide.All
import OpenK.AllK
import Wide.FinOn
import HandS.ForMost
import HandS.ForExc
import HandS.TupAny
import HandS.TupMul
import HandS.Gcd
import HandS.IsInst
import HandS.Deep
import HandS.Property
import HandS.ExcInit
import HandS.Flow
import HandS.Wide
import HandS.Conv
import HandS.Zip
import HandS.SetFor
import HandS.MakeKw
import HandS.CallSlots
import HandS.SortInts
import HandS.HotCalls
import HandS.Strs
import HandS.WideBits
import HandS.EndBits
import KE.KStateDown
import HandS.Ends
import HandS.Words
import HandS.Head0
import HandS.Head1
import HandS.Head2
import HandS.Head3
import HandS.HeadHook1
import HandS.HeadHook2
import HandS.HeadHook3
import HandS.Defaults
import HandS.Style
import KE.SortData
import HandS.MakeKwOnly
import HandS.RepeatKit
import HandS.DictTup
import HandS.More
import HandS.ExcValue
import HandS.ExcOwn
import KE.KRevSl
import KE.KMathGC
import HandS.Zip0
import HandS.Iter
import KE.GoesEnum
import HandS.TupLe
import HandS.Text
import HandS.StrMore
import HandS.FStr
import HandS.Replace
import HandS.Dict
import HandS.TryMany
import PySem.Challenge.RW_racebooks_k73_logs_that_are_wrong
set_option Elab.async false
set_option linter.all false
set_option maxRecDepth 100000
set_option maxHeartbeats 4000000
namespace RB
open PySem PySem.Spec PyProof.Rows L2
end RB
namespace HK
open PySem PySem.Spec PyProof.Rows L2
abbrev Fg := PySem.W.Frag
abbrev Fq := Fg → Bool
def dtu (K : Fg) (f : Addr) : Addr := match K.lookup f with
  | some ⟨_, _, .func g, _⟩ => (match g.defaults with | .ref t => t | _ => 0)
  | _ => 0
def elm (K : Fg) (t : Addr) (i : Nat) : Addr := match K.lookup t with
  | some ⟨_, _, .seq v _, _⟩ => (match v.toList[i]? with | some (.ref a) => a | _ => 0)
  | _ => 0
section
variable {K : Fg} {x : Str} {a p : Addr}
def gi (K : Fg) (x : Str) (i : Int) : Bool := match PySem.W.nsIn K mainGlobals x with
  | some (some (.int j _)) => decide (j = i)
  | _ => false
theorem gi_get {i : Int} (h : gi K x i = true) : ∃ t, PySem.W.nsIn K mainGlobals x = some (some (.int i t)) := by
  unfold gi at h
  split at h
  · rename_i j t e
    rw [of_decide_eq_true h] at e
    exact ⟨t, e⟩
  · cases h
def tupL (K : Fg) (a : Addr) : Option (List Value) := match K.lookup a with
  | some ⟨.type c, _, .seq v _, _⟩ => if c = "tuple" then some v.toList else none
  | _ => none
theorem tupL_get {l : List Value} (h : tupL K a = some l) : ∃ d m s, K.lookup a = some ⟨.type "tuple", d, .seq l.toArray m, s⟩ := by
  unfold tupL at h
  split at h
  · rename_i c d v m s e
    split at h
    · rename_i q
      cases h
      subst q
      exact ⟨d, m, s, e⟩
    · cases h
  · cases h
def tz (K : Fg) (a : Addr) : Bool := match tupL K a with
  | some [] => true
  | _ => false
theorem tz_get (h : tz K a = true) : ∃ d m s, K.lookup a = some ⟨.type "tuple", d, .seq #[] m, s⟩ := by
  unfold tz at h
  split at h
  · rename_i e
    exact tupL_get e
  · cases h
def tr (K : Fg) (a : Addr) (b : Bool) (y z : Addr) : Bool := match tupL K a with
  | some [.bool c, .ref p, .ref q] => decide (c = b) && (decide (p = y) && decide (q = z))
  | _ => false
theorem tr_get {b : Bool} {y z : Addr} (h : tr K a b y z = true) : ∃ d m s, K.lookup a = some ⟨.type "tuple", d, .seq #[.bool b, .ref y, .ref z] m, s⟩ := by
  unfold tr at h
  split at h
  · rename_i c p q e
    rw [Bool.and_eq_true, Bool.and_eq_true, decide_eq_true_eq, decide_eq_true_eq, decide_eq_true_eq] at h
    obtain ⟨rfl, rfl, rfl⟩ := h
    exact tupL_get e
  · cases h
def exo (K : Fg) (C : Addr) (mro : List Value) : Bool := match K.lookup C with
  | some ⟨.type c, _, .cls cd, sl⟩ => (match sl.toList with
    | [_, _, _, _, some (.builtin n), _] => decide (c = "type") && (decide (n = "Exception.__new__") && (cd.hasDict && (!cd.hasDel && decide (cd.mro = .ref C :: mro))))
    | _ => false)
  | _ => false
theorem exo_get {C : Addr} {mro : List Value} (h : exo K C mro = true) : ∃ nm q N bs sn sub ab col dd k0 k1 k2 k3 k5, K.lookup C = some (excClassObj nm q C N bs mro true sn sub ab col dd k0 k1 k2 k3 k5 "Exception.__new__") := by
  unfold exo at h
  split at h
  · rename_i c dd cd sl e
    split at h
    · rename_i k0 k1 k2 k3 n k5 es
      simp only [Bool.and_eq_true, decide_eq_true_eq, Bool.not_eq_true'] at h
      obtain ⟨rfl, rfl, h1, h2, h3⟩ := h
      obtain ⟨z1, z2, z3, z4, z5, z6, z7, z8, z9, z10, z11⟩ := cd
      dsimp only at h1 h2 h3
      subst h1 h2 h3
      obtain ⟨l⟩ := sl
      dsimp only at es
      subst es
      exact ⟨z1, z5, z4, z2, z7, z8, z9, z10, dd, k0, k1, k2, k3, k5, e⟩
    · cases h
  · cases h
end
structure Df where
  adr : Fg → Addr
  nm : Str
  ql : Str
  st : Stmt
  df : Bool := false
abbrev Vw := Option (Str × Str × Arguments × FuncBody × Scope × Addr × List (Str × Addr) × Addr)
def see (K : Fg) (a : Addr) : Vw := match K.lookup a with
  | some ⟨_, _, .func g, _⟩ => some (g.name, g.qualname, g.params, g.body, g.scope, g.globals, g.closure, g.builtins)
  | _ => none
def Df.meant (d : Df) : Vw := some (d.nm, d.ql, defArgs d.st, .stmts (defBody d.st), defScope d.st, mainGlobals, [], builtinsNs)
def Df.dv (K : Fg) (d : Df) : Value := match d.df with
  | true => .ref (dtu K (d.adr K))
  | false => .none
def Df.good (K : Fg) (d : Df) : Bool := PySem.W.keepIn K (.ref (d.adr K)) && (match K.lookup (d.adr K) with
  | some ⟨_, _, .func g, _⟩ => PySem.W.codeIn K g.code d.ql && (match g.kwdefaults, g.defaults, d.df with
    | .none, .none, false => true
    | .none, .ref _, true => true
    | _, _, _ => false)
  | _ => false)
theorem Df.get {K : Fg} {d : Df} (e : see K (d.adr K) = d.meant) (h : d.good K = true) : ∃ oc od dc pm an cd ct sl, K.lookup (d.adr K) = some ⟨oc, od, .func (PySem.W.fnOf d.nm d.ql (defArgs d.st) (defBody d.st) (defScope d.st) (d.dv K) .none dc pm an cd ct), sl⟩ ∧ PySem.W.codeIn K cd d.ql = true ∧ PySem.W.keepIn K (.ref (d.adr K)) = true := by
  unfold Df.good at h
  rw [Bool.and_eq_true] at h
  obtain ⟨kp, h⟩ := h
  unfold see at e
  have dve : ∀ g oc od sl, K.lookup (d.adr K) = some ⟨oc, od, .func g, sl⟩ → (match g.kwdefaults, g.defaults, d.df with | .none, .none, false => true | .none, .ref _, true => true | _, _, _ => false) = true → g.kwdefaults = .none ∧ g.defaults = d.dv K := fun g oc od sl q z => by
    unfold Df.dv
    split at z
    · rename_i z0 z1 z2
      rw [z1, z2]; exact ⟨z0, rfl⟩
    · rename_i t z0 z1 z2
      refine ⟨z0, ?_⟩
      rw [z2]
      dsimp only
      unfold dtu
      rw [q]
      dsimp only
      rw [z1]
    · cases z
  cases q : K.lookup (d.adr K) with
  | none => rw [q] at h; cases h
  | some o =>
    obtain ⟨oc, od, dt, sl⟩ := o
    rw [q] at h e
    cases dt with
    | func g =>
      dsimp only at h e
      rw [Bool.and_eq_true] at h
      obtain ⟨kd, dv⟩ := dve g oc od sl q h.2
      obtain ⟨g1, g2, g3, g4, g5, g6, g7, g8, g9, g10, g11, g12, g13, g14, g15⟩ := g
      unfold Df.meant at e
      simp only [Option.some.injEq, Prod.mk.injEq] at e
      obtain ⟨rfl, rfl, rfl, rfl, rfl, rfl, rfl, rfl⟩ := e
      dsimp only at dv kd h
      subst dv kd
      exact ⟨oc, od, g10, g11, g12, g13, g14, sl, rfl, h.1, kp⟩
    | _ => cases h
abbrev Ans := Bool × List Vw
def ask (fs : List Fq) (fn : List Df) (K : Fg) : Ans := (fs.all (fun f => f K) && fn.all (fun d => d.good K), fn.map fun d => see K (d.adr K))
def told (fn : List Df) : Ans := (true, fn.map Df.meant)
def Says (fs : List Fq) (fn : List Df) (K : Fg) : Prop := ask fs fn K = told fn
def kin (o : Obj) : List Addr := match o.data with
  | .dict es _ => es.toList.flatMap fun e => He.refV e.val
  | .func g => He.refV g.code ++ He.refV g.defaults
  | .cls c => c.ns :: c.mro.flatMap He.refV
  | .seq v _ => v.toList.flatMap He.refV
  | .fields v => (match o.cls with
    | .type c => if c = "property" then v.toList.flatMap He.refV else []
    | _ => [])
  | _ => []
noncomputable def whole (r : PySem.W.OpenRow) (M : Nat) (w : World) : Option (Shared × PySem.W.SharedT) := HandSHeadRun.wholeF (fun p => HandSHeadRun.stepQ (HandSHeadRun.denQ HandSHeadRun.tabQ) p w) HandSHeadRun.fenceQ M r.prog
section
variable {fs : List Fq} {fn : List Df} {K : Fg}
theorem Says.q (h : Says fs fn K) (i : Nat) {f : Fq} (e : fs[i]? = some f) : f K = true := by
  have h1 := congrArg (fun z : Ans => z.1) h
  have h1 : (fs.all (fun f => f K) && fn.all (fun d => d.good K)) = true := h1
  rw [Bool.and_eq_true] at h1
  exact List.all_eq_true.mp h1.1 f (List.mem_of_getElem? e)
theorem Says.d (h : Says fs fn K) (i : Nat) {d : Df} (e : fn[i]? = some d) : ∃ oc od dc pm an cd ct sl, K.lookup (d.adr K) = some ⟨oc, od, .func (PySem.W.fnOf d.nm d.ql (defArgs d.st) (defBody d.st) (defScope d.st) (d.dv K) .none dc pm an cd ct), sl⟩ ∧ PySem.W.codeIn K cd d.ql = true ∧ PySem.W.keepIn K (.ref (d.adr K)) = true := by
  have h1 := congrArg (fun z : Ans => z.1) h
  have h1 : (fs.all (fun f => f K) && fn.all (fun d => d.good K)) = true := h1
  rw [Bool.and_eq_true] at h1
  have h2 : (fn.map fun d => see K (d.adr K)) = fn.map Df.meant := congrArg (fun z : Ans => z.2) h
  have h3 : (fn.map fun d => see K (d.adr K))[i]? = (fn.map Df.meant)[i]? := by rw [h2]
  rw [List.getElem?_map, List.getElem?_map, e] at h3
  exact Df.get (Option.some.inj h3) (List.all_eq_true.mp h1.2 d (List.mem_of_getElem? e))
end
theorem tie {l : PySem.W.OpenLaw} {n k : Nat} {q : Program} {loose : List Str} {XP : (Str → Option Value) → Heap → Prop} {YP : World → Heap → Prop} {d : DefRec} {CX : World → CXT} {x : Str} (hn : l.most = some n) (h63 : n ≤ sizeLine) (nod : d.params.defaults = []) (room : Room k callerA)
    (F : ∀ (w : World) (mg : Str → Option Value) (fa : Addr) (h : Heap), YP w h → h.Ns mainGlobals mg → mg d.name = some (.ref fa) → ∃ (K : Fg) (fd : FuncData) (sp : Sp), K.In h ∧ (∀ (s : Shared) (u : Value), BindsTo s fd ⟨[u], []⟩ [(x, u)]) ∧
      (∀ (H : Hp) (a : Addr) (ns : List Int), ns.length ≤ n → (∀ z ∈ ns, Builtin.Int.intBits z ≤ 1048576) → Only H → SqL K H a (ns.map V.int) → sp [.ref a] H (fun v _ => v = .bl true) fun _ _ _ => False) ∧ ∀ base : Heap, K.In base → base.Ns mainGlobals mg → FnOk l.prog w K mg base (CX w) k fa fd [x] sp)
    (out : ∀ (w : World) (H : Hp) (s : Shared) (e : Value) (t : Shared), CX w [] H s (fun _ _ _ => False) e t → False) : PySem.W.WalkO q loose XP YP l.row.toRowW d [] (fun f vs => PySem.call f vs) := by
  refine Att.attach_callB hn nod fun w s0 s1 mg mb fa o pm cd doc a us ns Gr Y q1 q2 q3 q4 q5 q6 len bits gn => ?_
  obtain ⟨K, fd, sp, inK, bd, hs, all⟩ := F w mg fa _ Y Gr.T.g q4
  exact law_call inK Gr.T.g Gr.T.b Gr.T.builtins Gr.T.nolimit gn q5 q6 (Nat.le_trans len h63) room all bd (fun H on sq => hs H a ns len bits on sq) fun H e t => out w H s1 e t
end HK
namespace HK
open PySem PySem.Spec PyProof.Rows L2
abbrev Ky := Option (List (Option (Str × Int)))
abbrev Tb := (Fg → Addr) × List Str
abbrev AnsT := Ans × List Ky
def sfn (K : Fg) (p : Addr) : Addr := match PySem.W.recIn K p "staticmethod" with
  | some (.ref a :: _) => a
  | _ => 0
def srp (K : Fg) (p : Addr) : Bool := match PySem.W.recIn K p "staticmethod" with
  | some (.ref _ :: _) => true
  | _ => false
theorem srp_get {K : Fg} {p : Addr} (h : srp K p = true) : ∃ r, PySem.W.recIn K p "staticmethod" = some (.ref (sfn K p) :: r) := by
  unfold srp at h
  split at h
  · rename_i b r e
    refine ⟨r, ?_⟩
    unfold sfn
    rw [e]
  · cases h
def stm (K : Fg) (C : Addr) (m : Str) (q : Addr) : Bool := match PySem.W.findCls K (.ref C) (.type "type") m with
  | some (.get (.builtin g) (.ref p) .none (.ref D)) => decide (g = "staticmethod.__get__") && (decide (p = q) && decide (D = C))
  | _ => false
theorem stm_get {K : Fg} {C q : Addr} {m : Str} (h : stm K C m q = true) : PySem.W.findCls K (.ref C) (.type "type") m = some (.get (.builtin "staticmethod.__get__") (.ref q) .none (.ref C)) := by
  unfold stm at h
  split at h
  · rename_i g p D e
    rw [Bool.and_eq_true, Bool.and_eq_true, decide_eq_true_eq, decide_eq_true_eq, decide_eq_true_eq] at h
    obtain ⟨rfl, rfl, rfl⟩ := h
    exact e
  · cases h
def kinS (o : Obj) : List Addr := match o.data with
  | .fields v => (match o.cls with
    | .type c => if c = "property" then v.toList.flatMap He.refV else if c = "staticmethod" then v.toList.flatMap He.refV else []
    | _ => [])
  | _ => kin o
def layT (g : Addr → Option Obj) : Nat → List Addr → List Addr
  | 0, l => l
  | n + 1, l => l ++ layT g n (l.flatMap fun a => match g a with
    | some o => kinS o
    | none => [])
def layS (g : Addr → Option Obj) (n : Nat) : List Addr := layT g n [mainGlobals] ++ [cStatics]
def partT (n : Nat) (s : PySem.W.SharedT) : Fg := He.frG (HandSHeadRun.getT s) (layS (HandSHeadRun.getT s) n)
def tabs (ts : List Tb) (K : Fg) : List Ky := ts.map fun t => He.dicW K (t.1 K)
def tabsW (ts : List Tb) (w : World) : List Ky := ts.map fun t => some (He.keysIn w.params t.2)
def askT (fs : List Fq) (fn : List Df) (ts : List Tb) (K : Fg) : AnsT := (ask fs fn K, tabs ts K)
def toldT (fn : List Df) (ts : List Tb) (w : World) : AnsT := (told fn, tabsW ts w)
def SaysT (fs : List Fq) (fn : List Df) (ts : List Tb) (w : World) (K : Fg) : Prop := askT fs fn ts K = toldT fn ts w
def hookT (n : Nat) (fs : List Fq) (fn : List Df) (ts : List Tb) : PySem.W.Hook where
  α := AnsT
  obs := fun s => askT fs fn ts (He.frG s.heap.get? (layS s.heap.get? n))
  val := fun w => toldT fn ts w
  says := fun w h => ∃ K : Fg, K.In h ∧ SaysT fs fn ts w K
  of := fun _ _ e => ⟨_, He.frG_in, e⟩
  keeps := fun _ _ _ ⟨K, hK, c⟩ k => ⟨K, PySem.W.Frag.In.keeps hK k, c⟩
def lookT (n : Nat) (fs : List Fq) (fn : List Df) (ts : List Tb) (s : PySem.W.SharedT) : AnsT := askT fs fn ts (He.frG (HandSHeadRun.getT s) (layS (HandSHeadRun.getT s) n))
theorem lookT_eq (n : Nat) (fs : List Fq) (fn : List Df) (ts : List Tb) (s : PySem.W.SharedT) : lookT n fs fn ts s = (hookT n fs fn ts).obs s.abs := by
  have e : HandSHeadRun.getT s = s.abs.heap.get? := funext fun a => HandSHeadRun.getT_eq s a
  unfold lookT
  rw [e]; rfl
theorem run_partsT {r : PySem.W.OpenRow} {q : Program} {n M : Nat} {fs : List Fq} {fn : List Df} {ts : List Tb} {loose : List Str} {w : World} (a : (whole r M w).map (fun x => HandSHeadRun.looksF r.prog x.1.heap x.2.abs) = some true)
    (b : (whole r M w).map (fun x => HandSHeadRun.seenQ q loose (importedModules r.prog.main.body) (fun s => PySem.W.xlAt q [] s && PySem.W.recOk r.toRowW.records s) x.2.abs) = some (PySem.W.openGood q loose))
    (c : (whole r M w).map (fun x => fs.all fun f => f (partT n x.2)) = some true) (d : (whole r M w).map (fun x => (fn.all (fun e => e.good (partT n x.2)), fn.map fun e => see (partT n x.2) (e.adr (partT n x.2)))) = some (true, fn.map Df.meant))
    (t : (whole r M w).map (fun x => tabs ts (partT n x.2)) = some (tabsW ts w)) : HandSHeadRun.RunEqI r q (hookT n fs fn ts) (lookT n fs fn ts) M loose w := by
  unfold HandSHeadRun.RunEqI
  show (whole r M w).map _ = _
  cases e : whole r M w with
  | none => rw [e] at a; cases a
  | some x =>
    rw [e] at a b c d t
    have a := Option.some.inj a
    have b := Option.some.inj b
    have c := Option.some.inj c
    have d := Option.some.inj d
    have t := Option.some.inj t
    dsimp only at a b c d t
    have d1 := congrArg Prod.fst d
    have d2 := congrArg Prod.snd d
    dsimp only at d1 d2
    have l : lookT n fs fn ts x.2 = toldT fn ts w := by
      show (((fs.all (fun f => f (partT n x.2)) && fn.all (fun e => e.good (partT n x.2)), fn.map fun e => see (partT n x.2) (e.adr (partT n x.2))), tabs ts (partT n x.2)) : AnsT) = ((true, fn.map Df.meant), tabsW ts w)
      rw [c, d1, d2, t]; rfl
    show some (HandSHeadRun.looksF r.prog x.1.heap x.2.abs, HandSHeadRun.seenQ q loose (importedModules r.prog.main.body) (fun s => PySem.W.xlAt q [] s && PySem.W.recOk r.toRowW.records s) x.2.abs, lookT n fs fn ts x.2) = some (true, PySem.W.openGood q loose, toldT fn ts w)
    rw [a, b, l]
section
variable {fs : List Fq} {fn : List Df} {ts : List Tb} {w : World} {K : Fg}
theorem SaysT.s (c : SaysT fs fn ts w K) : Says fs fn K := congrArg (fun z : AnsT => z.1) c
theorem SaysT.tab (c : SaysT fs fn ts w K) (i : Nat) {t : Tb} (h : ts[i]? = some t) : He.dicW K (t.1 K) = some (He.keysIn w.params t.2) := by
  have e : (ts.map fun t => He.dicW K (t.1 K)) = ts.map fun t => some (He.keysIn w.params t.2) := congrArg (fun z : AnsT => z.2) c
  have e2 : (ts.map fun t => He.dicW K (t.1 K))[i]? = (ts.map fun t => some (He.keysIn w.params t.2))[i]? := by rw [e]
  rw [List.getElem?_map, List.getElem?_map, h] at e2
  exact Option.some.inj e2
end
end HK
set_option maxHeartbeats 0
namespace LWH
open PySem PySem.Spec PyProof.Rows L2
def topH (i : Nat) : Stmt := PySem.Challenge.pw_racebooks_k73_logs_that_are_wrong.main.body.getD i (.Pass ⟨0, 0, 0, 0⟩)
abbrev R : PySem.W.OpenRow := PySem.W.OpenLaw.row PySem.Challenge.rw_racebooks_k73_logs_that_are_wrong
abbrev qv : Program := PySem.W.view R.prog [0, 1, 136]
def nm0 : List Str := ["BookError", "BadValue", "BadOffer", "BadSyntax", "TooMany", "ZERO", "ONE", "is_integer", "is_integer_within", "is_sequence", "is_fraction", "is_amount", "fraction", "plus", "minus", "times", "one_over", "is_below", "least_of", "scaled", "total", "MOST_RUNNERS", "MOST_PLACES", "MOST_CUT", "Race", "need_race", "outcomes", "is_bet", "bet_share", "running_in"]
def nm1 : List Str := ["_is_ascending", "_are_runners", "_are_cuts", "_may_come_level", "_is_top", "_is_row", "_subsets", "_without", "_orders", "_sequences", "_ways", "_is_right", "MOST_OFFERS", "MOST_ODDS", "MOST_CUT_TOGETHER", "is_offer", "need_offers", "cut_in", "offer_gain", "paid_share", "offer_gains", "_are_odds", "settled", "game", "greatest", "_common_bottom", "_whole", "Table", "sure", "surest"]
def nm2 : List Str := ["MOST_OFFERS_BESIDE", "top_odds", "low_odds", "_need_arguments", "_bet_columns", "_greatest_barred", "_in_proportion", "MOST_BOTTOM_OF_STEP", "MOST_IN_ALL", "comes", "least_stakes", "spread", "_need_pool", "_is_kept", "_is_step", "_need_row", "_is_payment", "_returned", "_bounds", "_bound", "_limits", "_can_come_to", "_first_stakes", "MOST_DIGITS", "need_parsed", "race_line", "fraction_word", "race_told", "offers_told", "bet_told"]
def nm3 : List Str := ["fraction_told", "numbers_told", "number_told", "_offer_told", "_numbers_word", "_race_of_four", "MOST_LETTERS", "Console", "_task", "_is_name", "_told_behind_name", "_bet_and_offers_told", "_pool_told", "_row_told", "_number_told", "_shown", "_counted", "_sure_word", "_surest_word", "_top_word", "_low_word", "_odds_word", "_comes_word", "_least_word", "ANSWERS", "POOL_ANSWERS", "_law_numbers", "_law_draw", "_law_take", "_law_text_of"]
def nm4 : List Str := ["_law_replay_fault", "_law_command", "_law_no_command"]
def names : List Str := nm0 ++ nm1 ++ nm2 ++ nm3 ++ nm4
def fs0 : List HK.Fq := [
  fun K => decide (PySem.W.nsIn K mainGlobals "Race" = some (some (.ref (He.ga K "Race")))),
  fun K => PySem.W.plainGet K (He.ga K "Race") Str.empty,
  fun K => PySem.W.hasDictIn K (He.ga K "Race"),
  fun K => PySem.W.plainOver K (He.ga K "Race"),
  fun K => decide (PySem.W.findIn K (.ref (He.ga K "Race")) "__setattr__" = some (some (.builtin "object.__setattr__"))),
  fun K => decide (PySem.W.findIn K (.ref (He.ga K "Race")) "__class__" = some (some (.builtin "object.__class__"))),
  fun K => decide (PySem.W.mroIn K (He.ga K "Race") (.type "object") = some true),
  fun K => PySem.W.makesIn K (He.ga K "Race"),
  fun K => PySem.W.keepIn K (.ref (He.ga K "Race")),
  fun K => decide (PySem.W.nsIn K mainGlobals "Table" = some (some (.ref (He.ga K "Table")))),
  fun K => PySem.W.plainGet K (He.ga K "Table") Str.empty,
  fun K => PySem.W.hasDictIn K (He.ga K "Table"),
  fun K => PySem.W.plainOver K (He.ga K "Table"),
  fun K => decide (PySem.W.findIn K (.ref (He.ga K "Table")) "__setattr__" = some (some (.builtin "object.__setattr__"))),
  fun K => decide (PySem.W.findIn K (.ref (He.ga K "Table")) "__class__" = some (some (.builtin "object.__class__"))),
  fun K => decide (PySem.W.mroIn K (He.ga K "Table") (.type "object") = some true),
  fun K => PySem.W.makesIn K (He.ga K "Table"),
  fun K => PySem.W.keepIn K (.ref (He.ga K "Table")),
  fun K => decide (PySem.W.nsIn K mainGlobals "Console" = some (some (.ref (He.ga K "Console")))),
  fun K => PySem.W.plainGet K (He.ga K "Console") Str.empty,
  fun K => PySem.W.hasDictIn K (He.ga K "Console"),
  fun K => PySem.W.plainOver K (He.ga K "Console"),
  fun K => decide (PySem.W.findIn K (.ref (He.ga K "Console")) "__setattr__" = some (some (.builtin "object.__setattr__"))),
  fun K => decide (PySem.W.findIn K (.ref (He.ga K "Console")) "__class__" = some (some (.builtin "object.__class__"))),
  fun K => decide (PySem.W.mroIn K (He.ga K "Console") (.type "object") = some true),
  fun K => PySem.W.makesIn K (He.ga K "Console"),
  fun K => PySem.W.keepIn K (.ref (He.ga K "Console")),
  fun K => decide (PySem.W.specialIn K (.builtin "object.__class__") "__get__" = some (some (.builtin "getset_descriptor.__get__"))),
  fun K => decide (PySem.W.takesIn K (.builtin "object.__class__") = some true),
  fun K => decide (PySem.W.nsIn K mainGlobals "all" = some none),
  fun K => decide (PySem.W.nsIn K mainGlobals "bool" = some none),
  fun K => decide (PySem.W.nsIn K mainGlobals "enumerate" = some none),
  fun K => decide (PySem.W.nsIn K mainGlobals "int" = some none),
  fun K => decide (PySem.W.nsIn K mainGlobals "isinstance" = some none),
  fun K => decide (PySem.W.nsIn K mainGlobals "len" = some none),
  fun K => decide (PySem.W.nsIn K mainGlobals "list" = some none),
  fun K => decide (PySem.W.nsIn K mainGlobals "range" = some none),
  fun K => decide (PySem.W.nsIn K mainGlobals "set" = some none),
  fun K => decide (PySem.W.nsIn K mainGlobals "sorted" = some none),
  fun K => decide (PySem.W.nsIn K mainGlobals "str" = some none)]
def fs1 : List HK.Fq := [
  fun K => decide (PySem.W.nsIn K mainGlobals "tuple" = some none),
  fun K => decide (PySem.W.nsIn K mainGlobals "gcd" = some (some (.builtin "math.gcd"))),
  fun K => decide (PySem.W.findIn K (.ref (He.ga K "Console")) "_commands" = some none),
  fun K => decide (PySem.W.findIn K (.ref (He.ga K "Console")) "_races" = some none),
  fun K => decide (PySem.W.findIn K (.ref (He.ga K "Race")) "_absent" = some none),
  fun K => decide (PySem.W.findIn K (.ref (He.ga K "Race")) "_cuts" = some none),
  fun K => decide (PySem.W.findIn K (.ref (He.ga K "Race")) "_runners" = some none),
  fun K => decide (PySem.W.findIn K (.ref (He.ga K "Race")) "_ties" = some none),
  fun K => HK.gi K "MOST_DIGITS" (4),
  fun K => HK.gi K "MOST_LETTERS" (12),
  fun K => HK.gi K "MOST_CUT" (90),
  fun K => HK.gi K "MOST_RUNNERS" (4),
  fun K => decide (PySem.W.nsIn K mainGlobals "BadValue" = some (some (.ref (He.ga K "BadValue")))),
  fun K => HK.exo K (He.ga K "BadValue") [.ref (He.ga K "BookError"), .type "Exception", .type "BaseException", .type "object"],
  fun K => decide (PySem.W.findIn K (.ref (He.ga K "BadValue")) "__setattr__" = some (some (.builtin "object.__setattr__"))),
  fun K => decide (PySem.W.findIn K (.ref (He.ga K "BadValue")) "__getattribute__" = some (some (.builtin "BaseException.__getattribute__"))),
  fun K => decide (PySem.W.findIn K (.ref (He.ga K "BadValue")) "__getattr__" = some none),
  fun K => decide (PySem.W.findIn K (.ref (He.ga K "BadValue")) "at" = some none),
  fun K => PySem.W.keepIn K (.ref (He.ga K "BadValue")),
  fun K => decide (PySem.W.subIn K (.ref (He.ga K "BadValue")) (.type "BaseException") = some true),
  fun K => decide (PySem.W.typeIn K (.ref (He.ga K "BadValue")) = some (.type "type")),
  fun K => PySem.W.hasDictIn K (He.ga K "BadValue"),
  fun K => decide (PySem.W.findIn K (.ref (He.ga K "BadValue")) "__init__" = some (some (.ref (He.ma K (He.ga K "BadValue") "__init__")))),
  fun K => decide (PySem.W.typeIn K (.ref (He.ma K (He.ga K "BadValue") "__init__")) = some (.type "function")),
  fun K => decide (PySem.W.nsIn K mainGlobals "BadOffer" = some (some (.ref (He.ga K "BadOffer")))),
  fun K => HK.exo K (He.ga K "BadOffer") [.ref (He.ga K "BookError"), .type "Exception", .type "BaseException", .type "object"],
  fun K => decide (PySem.W.findIn K (.ref (He.ga K "BadOffer")) "__setattr__" = some (some (.builtin "object.__setattr__"))),
  fun K => decide (PySem.W.findIn K (.ref (He.ga K "BadOffer")) "__getattribute__" = some (some (.builtin "BaseException.__getattribute__"))),
  fun K => decide (PySem.W.findIn K (.ref (He.ga K "BadOffer")) "__getattr__" = some none),
  fun K => decide (PySem.W.findIn K (.ref (He.ga K "BadOffer")) "at" = some none),
  fun K => PySem.W.keepIn K (.ref (He.ga K "BadOffer")),
  fun K => decide (PySem.W.subIn K (.ref (He.ga K "BadOffer")) (.type "BaseException") = some true),
  fun K => decide (PySem.W.typeIn K (.ref (He.ga K "BadOffer")) = some (.type "type")),
  fun K => PySem.W.hasDictIn K (He.ga K "BadOffer"),
  fun K => decide (PySem.W.findIn K (.ref (He.ga K "BadOffer")) "__init__" = some (some (.ref (He.ma K (He.ga K "BadOffer") "__init__")))),
  fun K => decide (PySem.W.typeIn K (.ref (He.ma K (He.ga K "BadOffer") "__init__")) = some (.type "function")),
  fun K => decide (PySem.W.nsIn K mainGlobals "BadSyntax" = some (some (.ref (He.ga K "BadSyntax")))),
  fun K => HK.exo K (He.ga K "BadSyntax") [.ref (He.ga K "BookError"), .type "Exception", .type "BaseException", .type "object"],
  fun K => decide (PySem.W.findIn K (.ref (He.ga K "BadSyntax")) "__setattr__" = some (some (.builtin "object.__setattr__"))),
  fun K => decide (PySem.W.findIn K (.ref (He.ga K "BadSyntax")) "__getattribute__" = some (some (.builtin "BaseException.__getattribute__")))]
def fs2 : List HK.Fq := [
  fun K => decide (PySem.W.findIn K (.ref (He.ga K "BadSyntax")) "__getattr__" = some none),
  fun K => decide (PySem.W.findIn K (.ref (He.ga K "BadSyntax")) "at" = some none),
  fun K => PySem.W.keepIn K (.ref (He.ga K "BadSyntax")),
  fun K => decide (PySem.W.subIn K (.ref (He.ga K "BadSyntax")) (.type "BaseException") = some true),
  fun K => decide (PySem.W.typeIn K (.ref (He.ga K "BadSyntax")) = some (.type "type")),
  fun K => PySem.W.hasDictIn K (He.ga K "BadSyntax"),
  fun K => decide (PySem.W.findIn K (.ref (He.ga K "BadSyntax")) "__init__" = some (some (.ref (He.ma K (He.ga K "BadSyntax") "__init__")))),
  fun K => decide (PySem.W.typeIn K (.ref (He.ma K (He.ga K "BadSyntax") "__init__")) = some (.type "function")),
  fun K => decide (PySem.W.nsIn K mainGlobals "TooMany" = some (some (.ref (He.ga K "TooMany")))),
  fun K => HK.exo K (He.ga K "TooMany") [.ref (He.ga K "BookError"), .type "Exception", .type "BaseException", .type "object"],
  fun K => decide (PySem.W.findIn K (.ref (He.ga K "TooMany")) "__setattr__" = some (some (.builtin "object.__setattr__"))),
  fun K => decide (PySem.W.findIn K (.ref (He.ga K "TooMany")) "__getattribute__" = some (some (.builtin "BaseException.__getattribute__"))),
  fun K => decide (PySem.W.findIn K (.ref (He.ga K "TooMany")) "__getattr__" = some none),
  fun K => decide (PySem.W.findIn K (.ref (He.ga K "TooMany")) "word" = some none),
  fun K => PySem.W.keepIn K (.ref (He.ga K "TooMany")),
  fun K => decide (PySem.W.subIn K (.ref (He.ga K "TooMany")) (.type "BaseException") = some true),
  fun K => decide (PySem.W.typeIn K (.ref (He.ga K "TooMany")) = some (.type "type")),
  fun K => PySem.W.hasDictIn K (He.ga K "TooMany"),
  fun K => decide (PySem.W.findIn K (.ref (He.ga K "TooMany")) "__init__" = some (some (.ref (He.ma K (He.ga K "TooMany") "__init__")))),
  fun K => decide (PySem.W.typeIn K (.ref (He.ma K (He.ga K "TooMany") "__init__")) = some (.type "function")),
  fun K => PySem.W.isClsIn K (He.ga K "BadValue"),
  fun K => decide (PySem.W.subIn K (.ref (He.ga K "BadValue")) (.ref (He.ga K "BadValue")) = some true),
  fun K => decide (PySem.W.subIn K (.ref (He.ga K "BadOffer")) (.ref (He.ga K "BadValue")) = some false),
  fun K => decide (PySem.W.subIn K (.ref (He.ga K "BadSyntax")) (.ref (He.ga K "BadValue")) = some false),
  fun K => decide (PySem.W.subIn K (.ref (He.ga K "TooMany")) (.ref (He.ga K "BadValue")) = some false),
  fun K => PySem.W.isClsIn K (He.ga K "BadOffer"),
  fun K => decide (PySem.W.subIn K (.ref (He.ga K "BadValue")) (.ref (He.ga K "BadOffer")) = some false),
  fun K => decide (PySem.W.subIn K (.ref (He.ga K "BadOffer")) (.ref (He.ga K "BadOffer")) = some true),
  fun K => decide (PySem.W.subIn K (.ref (He.ga K "BadSyntax")) (.ref (He.ga K "BadOffer")) = some false),
  fun K => decide (PySem.W.subIn K (.ref (He.ga K "TooMany")) (.ref (He.ga K "BadOffer")) = some false),
  fun K => PySem.W.isClsIn K (He.ga K "BadSyntax"),
  fun K => decide (PySem.W.subIn K (.ref (He.ga K "BadValue")) (.ref (He.ga K "BadSyntax")) = some false),
  fun K => decide (PySem.W.subIn K (.ref (He.ga K "BadOffer")) (.ref (He.ga K "BadSyntax")) = some false),
  fun K => decide (PySem.W.subIn K (.ref (He.ga K "BadSyntax")) (.ref (He.ga K "BadSyntax")) = some true),
  fun K => decide (PySem.W.subIn K (.ref (He.ga K "TooMany")) (.ref (He.ga K "BadSyntax")) = some false),
  fun K => PySem.W.isClsIn K (He.ga K "TooMany"),
  fun K => decide (PySem.W.subIn K (.ref (He.ga K "BadValue")) (.ref (He.ga K "TooMany")) = some false),
  fun K => decide (PySem.W.subIn K (.ref (He.ga K "BadOffer")) (.ref (He.ga K "TooMany")) = some false),
  fun K => decide (PySem.W.subIn K (.ref (He.ga K "BadSyntax")) (.ref (He.ga K "TooMany")) = some false),
  fun K => decide (PySem.W.subIn K (.ref (He.ga K "TooMany")) (.ref (He.ga K "TooMany")) = some true)]
def fs3 : List HK.Fq := [
  fun K => PySem.W.isClsIn K (He.ga K "Race"),
  fun K => decide (PySem.W.typeIn K (.ref (He.ga K "Race")) = some (.type "type")),
  fun K => decide (PySem.W.subIn K (.ref (He.ga K "Race")) (.type "int") = some false),
  fun K => decide (PySem.W.subIn K (.ref (He.ga K "Race")) (.type "bool") = some false),
  fun K => decide (PySem.W.subIn K (.ref (He.ga K "Race")) (.type "list") = some false),
  fun K => decide (PySem.W.subIn K (.ref (He.ga K "Race")) (.type "tuple") = some false),
  fun K => decide (PySem.W.subIn K (.ref (He.ga K "Race")) (.type "str") = some false),
  fun K => decide (PySem.W.nsIn K mainGlobals "_law_numbers" = some (some (.ref (He.ga K "_law_numbers")))),
  fun K => decide (PySem.W.nsIn K mainGlobals "_law_draw" = some (some (.ref (He.ga K "_law_draw")))),
  fun K => decide (PySem.W.nsIn K mainGlobals "_law_take" = some (some (.ref (He.ga K "_law_take")))),
  fun K => decide (PySem.W.nsIn K mainGlobals "_law_command" = some (some (.ref (He.ga K "_law_command")))),
  fun K => decide (PySem.W.findIn K (.ref (He.ga K "Console")) "__init__" = some (some (.ref (He.ma K (He.ga K "Console") "__init__")))),
  fun K => PySem.W.isFn K (.ref (He.ma K (He.ga K "Console") "__init__")),
  fun K => decide (PySem.W.nsIn K mainGlobals "number_told" = some (some (.ref (He.ga K "number_told")))),
  fun K => decide (PySem.W.nsIn K mainGlobals "fraction_told" = some (some (.ref (He.ga K "fraction_told")))),
  fun K => decide (PySem.W.nsIn K mainGlobals "fraction" = some (some (.ref (He.ga K "fraction")))),
  fun K => decide (PySem.W.nsIn K mainGlobals "_number_told" = some (some (.ref (He.ga K "_number_told")))),
  fun K => decide (PySem.W.nsIn K mainGlobals "_row_told" = some (some (.ref (He.ga K "_row_told")))),
  fun K => decide (PySem.W.nsIn K mainGlobals "_pool_told" = some (some (.ref (He.ga K "_pool_told")))),
  fun K => decide (PySem.W.nsIn K mainGlobals "_is_name" = some (some (.ref (He.ga K "_is_name")))),
  fun K => decide (PySem.W.nsIn K mainGlobals "numbers_told" = some (some (.ref (He.ga K "numbers_told")))),
  fun K => decide (PySem.W.nsIn K mainGlobals "race_told" = some (some (.ref (He.ga K "race_told")))),
  fun K => decide (PySem.W.nsIn K mainGlobals "bet_told" = some (some (.ref (He.ga K "bet_told")))),
  fun K => decide (PySem.W.nsIn K mainGlobals "_offer_told" = some (some (.ref (He.ga K "_offer_told")))),
  fun K => decide (PySem.W.nsIn K mainGlobals "offers_told" = some (some (.ref (He.ga K "offers_told")))),
  fun K => decide (PySem.W.nsIn K mainGlobals "_bet_and_offers_told" = some (some (.ref (He.ga K "_bet_and_offers_told")))),
  fun K => decide (PySem.W.nsIn K mainGlobals "_told_behind_name" = some (some (.ref (He.ga K "_told_behind_name")))),
  fun K => decide (PySem.W.nsIn K mainGlobals "_task" = some (some (.ref (He.ga K "_task")))),
  fun K => decide (PySem.W.nsIn K mainGlobals "is_integer" = some (some (.ref (He.ga K "is_integer")))),
  fun K => decide (PySem.W.nsIn K mainGlobals "is_integer_within" = some (some (.ref (He.ga K "is_integer_within")))),
  fun K => decide (PySem.W.nsIn K mainGlobals "is_sequence" = some (some (.ref (He.ga K "is_sequence")))),
  fun K => decide (PySem.W.nsIn K mainGlobals "_are_runners" = some (some (.ref (He.ga K "_are_runners")))),
  fun K => decide (PySem.W.nsIn K mainGlobals "_is_ascending" = some (some (.ref (He.ga K "_is_ascending")))),
  fun K => decide (PySem.W.nsIn K mainGlobals "_are_cuts" = some (some (.ref (He.ga K "_are_cuts")))),
  fun K => decide (PySem.W.findIn K (.ref (He.ga K "Race")) "__init__" = some (some (.ref (He.ma K (He.ga K "Race") "__init__")))),
  fun K => PySem.W.isFn K (.ref (He.ma K (He.ga K "Race") "__init__")),
  fun K => HK.tr K (HK.dtu K (He.ma K (He.ga K "Race") "__init__")) true (HK.elm K (HK.dtu K (He.ma K (He.ga K "Race") "__init__")) 1) (HK.elm K (HK.dtu K (He.ma K (He.ga K "Race") "__init__")) 2),
  fun K => HK.tz K (HK.elm K (HK.dtu K (He.ma K (He.ga K "Race") "__init__")) 1),
  fun K => HK.tz K (HK.elm K (HK.dtu K (He.ma K (He.ga K "Race") "__init__")) 2),
  fun K => decide (PySem.W.findIn K (.ref (He.ga K "Console")) "_worked_out" = some (some (.ref (He.ma K (He.ga K "Console") "_worked_out"))))]
def fs4 : List HK.Fq := [
  fun K => PySem.W.isFn K (.ref (He.ma K (He.ga K "Console") "_worked_out")),
  fun K => decide (PySem.W.findIn K (.ref (He.ga K "Console")) "_answer" = some (some (.ref (He.ma K (He.ga K "Console") "_answer")))),
  fun K => PySem.W.isFn K (.ref (He.ma K (He.ga K "Console") "_answer")),
  fun K => decide (PySem.W.findIn K (.ref (He.ga K "Console")) "_repeat" = some (some (.ref (He.ma K (He.ga K "Console") "_repeat")))),
  fun K => PySem.W.isFn K (.ref (He.ma K (He.ga K "Console") "_repeat")),
  fun K => PySem.W.readsIn K (He.ga K "Console") (.type "type"),
  fun K => decide (PySem.W.specialIn K (.ref (He.ga K "Console")) "__getattribute__" = some (some (.builtin "type.__getattribute__"))),
  fun K => HK.stm K (He.ga K "Console") "replayed" (He.ma K (He.ga K "Console") "replayed"),
  fun K => HK.srp K (He.ma K (He.ga K "Console") "replayed"),
  fun K => decide (PySem.W.nsIn K mainGlobals "_law_replay_fault" = some (some (.ref (He.ga K "_law_replay_fault")))),
  fun K => decide (PySem.W.findIn K (.ref (He.ga K "Console")) "log" = some (some (.ref (He.ma K (He.ga K "Console") "log")))),
  fun K => PySem.W.isFn K (.ref (He.ma K (He.ga K "Console") "log")),
  fun K => decide (PySem.W.nsIn K mainGlobals "_law_text_of" = some (some (.ref (He.ga K "_law_text_of")))),
  fun K => decide (PySem.W.nsIn K mainGlobals "_law_no_command" = some (some (.ref (He.ga K "_law_no_command")))),
  fun K => decide (PySem.W.nsIn K mainGlobals "law" = some (some (.ref (He.ga K "law")))),
  fun K => decide (PySem.W.nsIn K mainGlobals "POOL_ANSWERS" = some (some (.ref (He.ga K "POOL_ANSWERS"))))]
def fs : List HK.Fq := fs0 ++ fs1 ++ fs2 ++ fs3 ++ fs4
def ts : List HK.Tb := [(fun K => He.ga K "POOL_ANSWERS", [Str.ofString "comes", Str.ofString "least"])]
def fn0 : List HK.Df := [
  ⟨fun K => (He.ma K (He.ga K "BadValue") "__init__"), "__init__", "BadValue.__init__", inClass (topH 4) 0, false⟩,
  ⟨fun K => (He.ma K (He.ga K "BadOffer") "__init__"), "__init__", "BadOffer.__init__", inClass (topH 5) 0, false⟩,
  ⟨fun K => (He.ma K (He.ga K "BadSyntax") "__init__"), "__init__", "BadSyntax.__init__", inClass (topH 6) 0, false⟩,
  ⟨fun K => (He.ma K (He.ga K "TooMany") "__init__"), "__init__", "TooMany.__init__", inClass (topH 7) 0, false⟩,
  ⟨fun K => (He.ga K "_law_numbers"), "_law_numbers", "_law_numbers", topH 129, false⟩,
  ⟨fun K => (He.ga K "_law_draw"), "_law_draw", "_law_draw", topH 130, false⟩,
  ⟨fun K => (He.ga K "_law_take"), "_law_take", "_law_take", topH 131, false⟩,
  ⟨fun K => (He.ga K "_law_command"), "_law_command", "_law_command", topH 134, false⟩,
  ⟨fun K => (He.ma K (He.ga K "Console") "__init__"), "__init__", "Console.__init__", inClass (topH 109) 0, false⟩,
  ⟨fun K => (He.ga K "number_told"), "number_told", "number_told", topH 103, false⟩,
  ⟨fun K => (He.ga K "fraction_told"), "fraction_told", "fraction_told", topH 101, false⟩,
  ⟨fun K => (He.ga K "fraction"), "fraction", "fraction", topH 16, false⟩,
  ⟨fun K => (He.ga K "_number_told"), "_number_told", "_number_told", topH 116, false⟩,
  ⟨fun K => (He.ga K "_row_told"), "_row_told", "_row_told", topH 115, false⟩,
  ⟨fun K => (He.ga K "_pool_told"), "_pool_told", "_pool_told", topH 114, false⟩,
  ⟨fun K => (He.ga K "_is_name"), "_is_name", "_is_name", topH 111, false⟩,
  ⟨fun K => (He.ga K "numbers_told"), "numbers_told", "numbers_told", topH 102, false⟩,
  ⟨fun K => (He.ga K "race_told"), "race_told", "race_told", topH 98, false⟩,
  ⟨fun K => (He.ga K "bet_told"), "bet_told", "bet_told", topH 100, false⟩,
  ⟨fun K => (He.ga K "_offer_told"), "_offer_told", "_offer_told", topH 104, false⟩,
  ⟨fun K => (He.ga K "offers_told"), "offers_told", "offers_told", topH 99, false⟩,
  ⟨fun K => (He.ga K "_bet_and_offers_told"), "_bet_and_offers_told", "_bet_and_offers_told", topH 113, false⟩,
  ⟨fun K => (He.ga K "_told_behind_name"), "_told_behind_name", "_told_behind_name", topH 112, false⟩,
  ⟨fun K => (He.ga K "_task"), "_task", "_task", topH 110, false⟩,
  ⟨fun K => (He.ga K "is_integer"), "is_integer", "is_integer", topH 11, false⟩,
  ⟨fun K => (He.ga K "is_integer_within"), "is_integer_within", "is_integer_within", topH 12, false⟩,
  ⟨fun K => (He.ga K "is_sequence"), "is_sequence", "is_sequence", topH 13, false⟩,
  ⟨fun K => (He.ga K "_are_runners"), "_are_runners", "_are_runners", topH 36, false⟩,
  ⟨fun K => (He.ga K "_is_ascending"), "_is_ascending", "_is_ascending", topH 35, false⟩,
  ⟨fun K => (He.ga K "_are_cuts"), "_are_cuts", "_are_cuts", topH 37, false⟩,
  ⟨fun K => (He.ma K (He.ga K "Race") "__init__"), "__init__", "Race.__init__", inClass (topH 29) 0, true⟩,
  ⟨fun K => (He.ma K (He.ga K "Console") "_worked_out"), "_worked_out", "Console._worked_out", inClass (topH 109) 6, false⟩,
  ⟨fun K => (He.ma K (He.ga K "Console") "_answer"), "_answer", "Console._answer", inClass (topH 109) 5, false⟩,
  ⟨fun K => (He.ma K (He.ga K "Console") "_repeat"), "_repeat", "Console._repeat", inClass (topH 109) 4, false⟩,
  ⟨fun K => (HK.sfn K (He.ma K (He.ga K "Console") "replayed")), "replayed", "Console.replayed", inClass (topH 109) 3, false⟩,
  ⟨fun K => (He.ga K "_law_replay_fault"), "_law_replay_fault", "_law_replay_fault", topH 133, false⟩,
  ⟨fun K => (He.ma K (He.ga K "Console") "log"), "log", "Console.log", inClass (topH 109) 2, false⟩,
  ⟨fun K => (He.ga K "_law_text_of"), "_law_text_of", "_law_text_of", topH 132, false⟩,
  ⟨fun K => (He.ga K "_law_no_command"), "_law_no_command", "_law_no_command", topH 135, false⟩,
  ⟨fun K => (He.ga K "law"), "law", "law", topH 136, false⟩]
def fn : List HK.Df := fn0
theorem runA_false (w : World) : (HK.whole R 12000 (w.withFollow "special-get-raises" false)).map (fun x => HandSHeadRun.looksF R.prog x.1.heap x.2.abs) = some (true) := by
  kernel_rfl
theorem runA_true (w : World) : (HK.whole R 12000 (w.withFollow "special-get-raises" true)).map (fun x => HandSHeadRun.looksF R.prog x.1.heap x.2.abs) = some (true) := by
  kernel_rfl
theorem runA (w : World) : (HK.whole R 12000 w).map (fun x => HandSHeadRun.looksF R.prog x.1.heap x.2.abs) = some (true) := PySem.W.byRow2 "special-get-raises" (P := fun w => (HK.whole R 12000 w).map (fun x => HandSHeadRun.looksF R.prog x.1.heap x.2.abs) = some (true)) runA_false runA_true w
theorem runB_false (w : World) : (HK.whole R 12000 (w.withFollow "special-get-raises" false)).map (fun x => HandSHeadRun.seenQ qv names (importedModules R.prog.main.body) (fun s => PySem.W.xlAt qv [] s && PySem.W.recOk R.toRowW.records s) x.2.abs) = some (PySem.W.openGood qv names) := by
  kernel_rfl
theorem runB_true (w : World) : (HK.whole R 12000 (w.withFollow "special-get-raises" true)).map (fun x => HandSHeadRun.seenQ qv names (importedModules R.prog.main.body) (fun s => PySem.W.xlAt qv [] s && PySem.W.recOk R.toRowW.records s) x.2.abs) = some (PySem.W.openGood qv names) := by
  kernel_rfl
theorem runB (w : World) : (HK.whole R 12000 w).map (fun x => HandSHeadRun.seenQ qv names (importedModules R.prog.main.body) (fun s => PySem.W.xlAt qv [] s && PySem.W.recOk R.toRowW.records s) x.2.abs) = some (PySem.W.openGood qv names) := PySem.W.byRow2 "special-get-raises" (P := fun w => (HK.whole R 12000 w).map (fun x => HandSHeadRun.seenQ qv names (importedModules R.prog.main.body) (fun s => PySem.W.xlAt qv [] s && PySem.W.recOk R.toRowW.records s) x.2.abs) = some (PySem.W.openGood qv names)) runB_false runB_true w
theorem runC_false (w : World) : (HK.whole R 12000 (w.withFollow "special-get-raises" false)).map (fun x => fs.all fun f => f (HK.partT 5 x.2)) = some (true) := by
  kernel_rfl
theorem runC_true (w : World) : (HK.whole R 12000 (w.withFollow "special-get-raises" true)).map (fun x => fs.all fun f => f (HK.partT 5 x.2)) = some (true) := by
  kernel_rfl
theorem runC (w : World) : (HK.whole R 12000 w).map (fun x => fs.all fun f => f (HK.partT 5 x.2)) = some (true) := PySem.W.byRow2 "special-get-raises" (P := fun w => (HK.whole R 12000 w).map (fun x => fs.all fun f => f (HK.partT 5 x.2)) = some (true)) runC_false runC_true w
theorem runD_false (w : World) : (HK.whole R 12000 (w.withFollow "special-get-raises" false)).map (fun x => (fn.all (fun e => e.good (HK.partT 5 x.2)), fn.map fun e => HK.see (HK.partT 5 x.2) (e.adr (HK.partT 5 x.2)))) = some ((true, fn.map HK.Df.meant)) := by
  kernel_rfl
theorem runD_true (w : World) : (HK.whole R 12000 (w.withFollow "special-get-raises" true)).map (fun x => (fn.all (fun e => e.good (HK.partT 5 x.2)), fn.map fun e => HK.see (HK.partT 5 x.2) (e.adr (HK.partT 5 x.2)))) = some ((true, fn.map HK.Df.meant)) := by
  kernel_rfl
theorem runD (w : World) : (HK.whole R 12000 w).map (fun x => (fn.all (fun e => e.good (HK.partT 5 x.2)), fn.map fun e => HK.see (HK.partT 5 x.2) (e.adr (HK.partT 5 x.2)))) = some ((true, fn.map HK.Df.meant)) := PySem.W.byRow2 "special-get-raises" (P := fun w => (HK.whole R 12000 w).map (fun x => (fn.all (fun e => e.good (HK.partT 5 x.2)), fn.map fun e => HK.see (HK.partT 5 x.2) (e.adr (HK.partT 5 x.2)))) = some ((true, fn.map HK.Df.meant))) runD_false runD_true w
theorem runT_false (w : World) : (HK.whole R 12000 (w.withFollow "special-get-raises" false)).map (fun x => HK.tabs ts (HK.partT 5 x.2)) = some (HK.tabsW ts (w.withFollow "special-get-raises" false)) := by
  kernel_rfl
theorem runT_true (w : World) : (HK.whole R 12000 (w.withFollow "special-get-raises" true)).map (fun x => HK.tabs ts (HK.partT 5 x.2)) = some (HK.tabsW ts (w.withFollow "special-get-raises" true)) := by
  kernel_rfl
theorem runT (w : World) : (HK.whole R 12000 w).map (fun x => HK.tabs ts (HK.partT 5 x.2)) = some (HK.tabsW ts w) := PySem.W.byRow2 "special-get-raises" (P := fun w => (HK.whole R 12000 w).map (fun x => HK.tabs ts (HK.partT 5 x.2)) = some (HK.tabsW ts w)) runT_false runT_true w
theorem run (w : World) : HandSHeadRun.RunEqI R qv (HK.hookT 5 fs fn ts) (HK.lookT 5 fs fn ts) 12000 names w := HK.run_partsT (runA w) (runB w) (runC w) (runD w) (runT w)
end LWH
set_option maxHeartbeats 4000000
namespace RB
open PySem PySem.Spec PyProof.Rows L2
inductive W where
  | non | bl (b : Bool) | int (i : Int) | str (x : Str) | tup (ws : List W) | ref (n : Nat)
inductive Cell where
  /-- a list -/
  | lst (ws : List W)
  /-- a list that is only read -/
  | scr (ws : List W)
  /-- an instance of the class with this number -/
  | ins (c : Nat) (fs : List (Str × W))
  /-- a dict with texts for keys -/
  | dct (fs : List (Str × W))
structure Sto where
  c : List Cell
  d : Option Nat
abbrev Lo := List (Option W)
inductive Res (α : Type) where
  | ok (a : α) (st : Sto)
  | exc (c : Nat) (p : W) (st : Sto)
  | err
def Res.bind {α β : Type} (r : Res α) (k : α → Sto → Res β) : Res β :=
  match r with
  | .ok a st => k a st
  | .exc c p st => .exc c p st
  | .err => .err
abbrev Ev := Lo → Sto → Res W
abbrev Bv := Lo → Sto → Res Bool
abbrev Evs := Lo → Sto → Res (List W)
inductive RS where
  | nx (l : Lo) (st : Sto) | rt (w : W) (st : Sto) | bk (l : Lo) (st : Sto) | ct (l : Lo) (st : Sto) | exc (c : Nat) (p : W) (l : Lo) (st : Sto) | err
abbrev Sx := Lo → Sto → RS
structure Gm where
  K : PySem.W.Frag
  cl : Nat → Addr
  ec : Nat → Addr
  fld : Nat → Str
structure Gf extends Gm where
  b : Nat
  q : Nat → Nat
mutual
inductive Rep (K : PySem.W.Frag) (μ : List Addr) (H : Hp) : W → V → Prop
  | non : Rep K μ H .non .non
  | bl (b : Bool) : Rep K μ H (.bl b) (.bl b)
  | int (i : Int) : Rep K μ H (.int i) (.int i)
  | str (x : Str) : Rep K μ H (.str x) (.str x)
  | tup {a : Addr} {ws : List W} {xs : List V} : SqT K H a xs → Reps K μ H ws xs → Rep K μ H (.tup ws) (.ref a)
  | ref {n : Nat} {a : Addr} : μ[n]? = some a → Rep K μ H (.ref n) (.ref a)
inductive Reps (K : PySem.W.Frag) (μ : List Addr) (H : Hp) : List W → List V → Prop
  | nil : Reps K μ H [] []
  | cons {w : W} {v : V} {ws : List W} {vs : List V} : Rep K μ H w v → Reps K μ H ws vs → Reps K μ H (w :: ws) (v :: vs)
end
structure Ext (K : PySem.W.Frag) (μ μ' : List Addr) (H H' : Hp) : Prop where
  pre : ∀ (i : Nat) a, μ[i]? = some a → μ'[i]? = some a
  tup : ∀ a xs, SqT K H a xs → SqT K H' a xs
section
variable {K : PySem.W.Frag} {μ μ' μ'' : List Addr} {H H' H'' : Hp}
theorem Ext.refl : Ext K μ μ H H := ⟨fun _ _ h => h, fun _ _ h => h⟩
theorem Ext.trans (a : Ext K μ μ' H H') (b : Ext K μ' μ'' H' H'') : Ext K μ μ'' H H'' := ⟨fun i x h => b.pre i x (a.pre i x h), fun x y h => b.tup x y (a.tup x y h)⟩
mutual
theorem Rep.mono (e : Ext K μ μ' H H') : ∀ {w : W} {v : V}, Rep K μ H w v → Rep K μ' H' w v
  | _, _, .non => .non
  | _, _, .bl b => .bl b
  | _, _, .int b => .int b
  | _, _, .str b => .str b
  | _, _, .tup h r => .tup (e.tup _ _ h) (Reps.mono e r)
  | _, _, .ref h => .ref (e.pre _ _ h)
theorem Reps.mono (e : Ext K μ μ' H H') : ∀ {w : List W} {v : List V}, Reps K μ H w v → Reps K μ' H' w v
  | _, _, .nil => .nil
  | _, _, .cons a b => .cons (Rep.mono e a) (Reps.mono e b)
end
theorem Reps.length : ∀ {ws : List W} {vs : List V}, Reps K μ H ws vs → ws.length = vs.length
  | _, _, .nil => rfl
  | _, _, .cons _ b => congrArg (· + 1) (Reps.length b)
theorem Reps.get : ∀ {ws : List W} {vs : List V} {i : Nat} {w : W}, Reps K μ H ws vs → ws[i]? = some w → ∃ v, vs[i]? = some v ∧ Rep K μ H w v
  | _, _, _, _, .nil, e => by simp at e
  | _, _, 0, _, .cons r _, e => by simp at e; subst e; exact ⟨_, rfl, r⟩
  | _, _, i + 1, w, .cons _ t, e => by
    obtain ⟨u, h1, h2⟩ := Reps.get (i := i) (w := w) t (by simpa using e)
    exact ⟨u, by simpa using h1, h2⟩
theorem Reps.append : ∀ {xs ys : List W} {us ws : List V}, Reps K μ H xs us → Reps K μ H ys ws → Reps K μ H (xs ++ ys) (us ++ ws)
  | _, _, _, _, .nil, s => s
  | _, _, _, _, .cons r t, s => .cons r (Reps.append t s)
theorem Reps.take : ∀ {xs : List W} {us : List V} (n : Nat), Reps K μ H xs us → Reps K μ H (xs.take n) (us.take n)
  | _, _, 0, _ => by simpa using Reps.nil
  | _, _, _ + 1, .nil => .nil
  | _, _, n + 1, .cons r t => .cons r (Reps.take n t)
theorem Reps.drop : ∀ {xs : List W} {us : List V} (n : Nat), Reps K μ H xs us → Reps K μ H (xs.drop n) (us.drop n)
  | _, _, 0, r => by simpa using r
  | _, _, _ + 1, .nil => .nil
  | _, _, n + 1, .cons _ t => by simpa using Reps.drop n t
theorem Reps.set {w : W} {v : V} (r : Rep K μ H w v) : ∀ {xs : List W} {us : List V} (i : Nat), Reps K μ H xs us → Reps K μ H (xs.set i w) (us.set i v)
  | _, _, _, .nil => .nil
  | _, _, 0, .cons _ t => .cons r t
  | _, _, i + 1, .cons q t => .cons q (Reps.set r i t)
theorem Reps.ints : ∀ {ns : List Int} {vs : List V}, Reps K μ H (ns.map W.int) vs → vs = ns.map V.int
  | [], _, .nil => rfl
  | n :: ns, _, .cons r t => by cases r; rw [Reps.ints t]; rfl
theorem Reps.of_ints (ns : List Int) : Reps K μ H (ns.map W.int) (ns.map V.int) := by
  induction ns with
  | nil => exact .nil
  | cons n ns ih => exact .cons (.int n) ih
theorem Reps.snoc {ws : List W} {vs : List V} {w : W} {v : V} (r : Reps K μ H ws vs) (h : Rep K μ H w v) : Reps K μ H (ws ++ [w]) (vs ++ [v]) := r.append (.cons h .nil)
def FRep (K : PySem.W.Frag) (μ : List Addr) (H : Hp) (fs : List (Str × W)) (gs : List (Str × V)) : Prop := Paired (fun (p : Str × W) (q : Str × V) => p.1 = q.1 ∧ Rep K μ H p.2 q.2) fs gs
theorem FRep.mono (e : Ext K μ μ' H H') {fs : List (Str × W)} {gs : List (Str × V)} (h : FRep K μ H fs gs) : FRep K μ' H' fs gs := Paired.mapP h fun _ _ z => ⟨z.1, z.2.mono e⟩
end
def WrL (K : PySem.W.Frag) (a : Addr) (xs : List V) : Prop :=
  ∃ (o : Obj) (its : Array Value) (n : Nat), K.lookup a = some o ∧ o.cls = .type "list" ∧ o.dict = none ∧ o.data = .seq its n ∧ its.size ≤ sizeLine ∧ Vals xs its.toList
def dKeys (gs : List (Str × V)) : List (Key × V) := gs.map fun p => (.inr p.1, p.2)
def CellOk (Γ : Gf) (μ : List Addr) (H : Hp) (a : Addr) : Cell → Prop
  | .lst ws => ∃ xs, H a = some (.lst xs) ∧ Reps Γ.K μ H ws xs
  | .scr ws => ∃ xs, (WrL Γ.K a xs ∨ ∃ o, H a = some (.frz o (.lst xs))) ∧ Reps Γ.K μ H ws xs
  | .ins c fs => ∃ dx gs, H a = some (.ins (Γ.cl c) dx gs) ∧ FRep Γ.K μ H fs gs
  | .dct fs => ∃ gs, H a = some (.dK (dKeys gs)) ∧ FRep Γ.K μ H fs gs
def Cell.own : Cell → Bool
  | .scr _ => false
  | _ => true
mutual
def W.low (n : Nat) : W → Bool
  | .ref k => decide (k < n)
  | .tup ws => W.lows n ws
  | _ => true
def W.lows (n : Nat) : List W → Bool
  | [] => true
  | w :: ws => W.low n w && W.lows n ws
end
def Cell.low (n : Nat) : Cell → Bool
  | .lst ws => W.lows n ws
  | .scr ws => W.lows n ws
  | .ins _ fs => W.lows n (fs.map (·.2))
  | .dct fs => W.lows n (fs.map (·.2))
structure Sim (Γ : Gf) (μ : List Addr) (st : Sto) (H : Hp) : Prop where
  len : μ.length = st.c.length
  inj : ∀ (i j : Nat) a c d, st.c[i]? = some c → st.c[j]? = some d → c.own = true → d.own = true → μ[i]? = some a → μ[j]? = some a → i = j
  cell : ∀ (i : Nat) c a, st.c[i]? = some c → μ[i]? = some a → CellOk Γ μ H a c
  back : ∀ (i : Nat) c, st.c[i]? = some c → (∀ k, st.d = some k → i < k) → c.low (Γ.q i) = true
  bl : Γ.b ≤ st.c.length
  ql : ∀ i, i < Γ.b → i ≤ Γ.q i ∧ Γ.q i ≤ Γ.b
  qg : ∀ i, Γ.b ≤ i → Γ.q i = i
theorem Sim.qi {Γ : Gf} {μ : List Addr} {st : Sto} {H : Hp} (s : Sim Γ μ st H) (i : Nat) : i ≤ Γ.q i := by
  rcases Nat.lt_or_ge i Γ.b with h | h
  · exact (s.ql i h).1
  · rw [s.qg i h]; exact Nat.le_refl _
theorem Sim.qn {Γ : Gf} {μ : List Addr} {st : Sto} {H : Hp} (s : Sim Γ μ st H) {i n : Nat} (hb : Γ.b ≤ n) (hi : i < n) : Γ.q i ≤ n := by
  rcases Nat.lt_or_ge i Γ.b with h | h
  · exact Nat.le_trans (s.ql i h).2 hb
  · rw [s.qg i h]; omega
mutual
theorem W.low_mono {n m : Nat} (h : n ≤ m) : ∀ {w : W}, W.low n w = true → W.low m w = true
  | .non, _ => rfl
  | .bl b, _ => rfl
  | .int b, _ => rfl
  | .str b, _ => rfl
  | .tup ws, q => by
    have q : W.lows n ws = true := q
    show W.lows m ws = true
    exact W.lows_mono h q
  | .ref k, q => by
    have q : decide (k < n) = true := q
    show decide (k < m) = true
    rw [decide_eq_true_eq] at q ⊢; omega
theorem W.lows_mono {n m : Nat} (h : n ≤ m) : ∀ {ws : List W}, W.lows n ws = true → W.lows m ws = true
  | [], _ => rfl
  | w :: ws, q => by
    have q : (W.low n w && W.lows n ws) = true := q
    rw [Bool.and_eq_true] at q
    show (W.low m w && W.lows m ws) = true
    rw [W.low_mono h q.1, W.lows_mono h q.2]; rfl
end
theorem Cell.low_mono {n m : Nat} (h : n ≤ m) {c : Cell} (q : c.low n = true) : c.low m = true := by
  cases c with
  | lst ws => exact W.lows_mono h q
  | scr ws => exact W.lows_mono h q
  | ins k fs => exact W.lows_mono h q
  | dct fs => exact W.lows_mono h q
def LRep (K : PySem.W.Frag) (μ : List Addr) (H : Hp) (l : Lo) (σ : L2.St) : Prop := l.length = σ.length ∧ ∀ (i : Nat) w, l[i]? = some (some w) → ∃ v, σ[i]? = some (some v) ∧ Rep K μ H w v
section
variable {K : PySem.W.Frag} {Γ : Gf} {μ μ' μ'' : List Addr} {H H' H'' : Hp} {l : Lo} {σ : L2.St} {st st' : Sto} {a p : Addr}
theorem LRep.mono (e : Ext K μ μ' H H') (h : LRep K μ H l σ) : LRep K μ' H' l σ := ⟨h.1, fun i w q => let ⟨v, a, b⟩ := h.2 i w q; ⟨v, a, b.mono e⟩⟩
theorem LRep.set {w : W} {v : V} (h : LRep K μ H l σ) (r : Rep K μ H w v) (i : Nat) : LRep K μ H (l.set i (some w)) (σ.set i (some v)) := by
  refine ⟨by simp [h.1], fun j w' q => ?_⟩
  by_cases hj : i = j
  · subst hj
    by_cases hl : i < l.length
    · rw [List.getElem?_set_self hl] at q
      cases q
      exact ⟨v, by rw [List.getElem?_set_self (by rw [← h.1]; exact hl)], r⟩
    · rw [List.getElem?_eq_none (by simpa using hl)] at q; cases q
  · rw [List.getElem?_set_ne hj] at q
    obtain ⟨v', h1, h2⟩ := h.2 j w' q
    exact ⟨v', by rw [List.getElem?_set_ne hj]; exact h1, h2⟩
theorem LRep.gone (h : LRep K μ H l σ) (i : Nat) : LRep K μ H (l.set i none) (σ.set i none) := by
  refine ⟨by simp [h.1], fun j w' q => ?_⟩
  by_cases hj : i = j
  · subst hj
    by_cases hl : i < l.length
    · rw [List.getElem?_set_self hl] at q; cases q
    · rw [List.getElem?_eq_none (by simpa using hl)] at q; cases q
  · rw [List.getElem?_set_ne hj] at q
    obtain ⟨v', h1, h2⟩ := h.2 j w' q
    exact ⟨v', by rw [List.getElem?_set_ne hj]; exact h1, h2⟩
def wipeL (l : Lo) : List Nat → Lo
  | [] => l
  | v :: vs => (wipeL l vs).set v none
theorem LRep.wipe (h : LRep K μ H l σ) : ∀ vs, LRep K μ H (wipeL l vs) (L2.wipe σ vs)
  | [] => h
  | v :: vs => (LRep.wipe h vs).gone v
theorem sqT_upd {o : HO} (h : SqT K H a xs) (hp : H p = none ∨ ∃ ys, H p = some (.lst ys)) : SqT K (upd H p o) a xs := by
  have ne : ∀ {u : HO}, H a = some u → (∀ ys, u ≠ .lst ys) → a ≠ p := fun {u} e nl z => by
    subst z
    rcases hp with q | ⟨ys, q⟩
    · rw [q] at e; cases e
    · rw [q] at e; cases e; exact nl ys rfl
  rcases h with (h | ⟨ob, h⟩) | h
  · exact .inl (.inl (by rw [upd_ne (ne h fun _ z => by cases z)]; exact h))
  · exact .inl (.inr ⟨ob, by rw [upd_ne (ne h fun _ z => by cases z)]; exact h⟩)
  · exact .inr h
theorem ext_upd {o : HO} (hp : H p = none ∨ ∃ ys, H p = some (.lst ys)) : Ext K μ μ H (upd H p o) := ⟨fun _ _ h => h, fun _ _ h => sqT_upd h hp⟩
theorem ext_new {o : HO} (hp : H p = none) : Ext K μ (μ ++ [a]) H (upd H p o) := ⟨fun i x h => by
  have := (List.getElem?_eq_some_iff.mp h).1
  rw [List.getElem?_append_left this]; exact h, fun _ _ h => sqT_upd h (.inl hp)⟩
theorem CellOk.kept {c : Cell} {o : HO} (h : CellOk Γ μ H a c) (e : Ext Γ.K μ μ' H (upd H p o)) (hp : H p = none ∨ (∃ ys, H p = some (.lst ys)) ∧ (c.own = true → a ≠ p)) : CellOk Γ μ' (upd H p o) a c := by
  have keep : ∀ {u : HO}, H a = some u → (c.own = true ∨ ∀ ys, u ≠ .lst ys) → upd H p o a = some u := fun {u} q nl => by
    rw [upd_ne]
    · exact q
    · intro z
      subst z
      rcases hp with r | ⟨⟨ys, r⟩, s⟩
      · rw [r] at q; cases q
      · rcases nl with nl | nl
        · exact s nl rfl
        · rw [r] at q; cases q; exact nl ys rfl
  cases c with
  | lst ws => obtain ⟨xs, h1, h2⟩ := h; exact ⟨xs, keep h1 (.inl rfl), h2.mono e⟩
  | scr ws =>
    obtain ⟨xs, h1, h2⟩ := h
    refine ⟨xs, ?_, h2.mono e⟩
    rcases h1 with h1 | ⟨ob, h1⟩
    · exact .inl h1
    · exact .inr ⟨ob, keep h1 (.inr fun _ z => by cases z)⟩
  | ins c fs => obtain ⟨dx, gs, h1, h2⟩ := h; exact ⟨dx, gs, keep h1 (.inl rfl), h2.mono e⟩
  | dct fs => obtain ⟨gs, h1, h2⟩ := h; exact ⟨gs, keep h1 (.inl rfl), h2.mono e⟩
theorem CellOk.ext {c : Cell} (h : CellOk Γ μ H a c) (e : Ext Γ.K μ μ' H H) : CellOk Γ μ' H a c := by
  cases c with
  | lst ws => obtain ⟨xs, h1, h2⟩ := h; exact ⟨xs, h1, h2.mono e⟩
  | scr ws => obtain ⟨xs, h1, h2⟩ := h; exact ⟨xs, h1, h2.mono e⟩
  | ins c fs => obtain ⟨dx, gs, h1, h2⟩ := h; exact ⟨dx, gs, h1, h2.mono e⟩
  | dct fs => obtain ⟨gs, h1, h2⟩ := h; exact ⟨gs, h1, h2.mono e⟩
theorem CellOk.some_ {c : Cell} (h : CellOk Γ μ H a c) (hc : c.own = true) : ∃ u, H a = some u := by
  cases c with
  | lst ws => obtain ⟨xs, h1, h2⟩ := h; exact ⟨_, h1⟩
  | scr ws => cases hc
  | ins c fs => obtain ⟨dx, gs, h1, h2⟩ := h; exact ⟨_, h1⟩
  | dct fs => obtain ⟨gs, h1, h2⟩ := h; exact ⟨_, h1⟩
mutual
theorem Rep.low {K : PySem.W.Frag} {n : Nat} {v : V} : ∀ {w : W}, Rep K μ H w v → μ.length ≤ n → W.low n w = true
  | .non, .non, _ => rfl
  | .bl b, .bl _, _ => rfl
  | .int b, .int _, _ => rfl
  | .str b, .str _, _ => rfl
  | .tup ws, .tup a b, h => by simp [W.low]; exact Reps.low b h
  | .ref k, .ref a, h => by
    have := (List.getElem?_eq_some_iff.mp a).1
    simp [W.low]; omega
theorem Reps.low {K : PySem.W.Frag} {n : Nat} : ∀ {ws : List W} {vs : List V}, Reps K μ H ws vs → μ.length ≤ n → W.lows n ws = true
  | [], _, .nil, _ => rfl
  | w :: ws, _, .cons a b, h => by simp [W.lows]; exact ⟨Rep.low a h, Reps.low b h⟩
end
mutual
def W.pure : W → Bool
  | .ref _ => false
  | .tup ws => W.pures ws
  | _ => true
def W.pures : List W → Bool
  | [] => true
  | w :: ws => W.pure w && W.pures ws
end
mutual
theorem Rep.pure {K : PySem.W.Frag} {v : V} : ∀ {w : W}, W.pure w = true → Rep K μ H w v → Rep K μ' H w v
  | .non, _, .non => .non
  | .bl b, _, .bl _ => .bl b
  | .int b, _, .int _ => .int b
  | .str b, _, .str _ => .str b
  | .tup ws, h, .tup a b => .tup a (Reps.pure (by simpa [W.pure] using h) b)
  | .ref _, h, _ => by simp [W.pure] at h
theorem Reps.pure {K : PySem.W.Frag} : ∀ {ws : List W} {vs : List V}, W.pures ws = true → Reps K μ H ws vs → Reps K μ' H ws vs
  | [], _, _, .nil => .nil
  | w :: ws, _, h, .cons a b => by
    simp [W.pures] at h
    exact .cons (Rep.pure h.1 a) (Reps.pure h.2 b)
end
mutual
theorem W.pure_low {n : Nat} : ∀ {w : W}, W.pure w = true → W.low n w = true
  | .non, _ => rfl
  | .bl b, _ => rfl
  | .int b, _ => rfl
  | .str b, _ => rfl
  | .tup ws, h => by simp [W.low]; exact W.pures_low (by simpa [W.pure] using h)
  | .ref _, h => by simp [W.pure] at h
theorem W.pures_low {n : Nat} : ∀ {ws : List W}, W.pures ws = true → W.lows n ws = true
  | [], _ => rfl
  | w :: ws, h => by
    simp [W.pures] at h
    simp [W.lows]
    exact ⟨W.pure_low h.1, W.pures_low h.2⟩
end
mutual
theorem Rep.cut {K : PySem.W.Frag} {n m : Nat} {v : V} : ∀ {w : W}, W.low n w = true → Rep K μ H w v → n ≤ m → Rep K (μ.take m) H w v
  | .non, _, .non, _ => .non
  | .bl b, _, .bl _, _ => .bl b
  | .int b, _, .int _, _ => .int b
  | .str b, _, .str _, _ => .str b
  | .tup ws, h, .tup a b, l => .tup a (Reps.cut (by simpa [W.low] using h) b l)
  | .ref k, h, .ref a, l => .ref (by
      simp [W.low] at h
      rw [List.getElem?_take_of_lt (by omega)]; exact a)
theorem Reps.cut {K : PySem.W.Frag} {n m : Nat} : ∀ {ws : List W} {vs : List V}, W.lows n ws = true → Reps K μ H ws vs → n ≤ m → Reps K (μ.take m) H ws vs
  | [], _, _, .nil, _ => .nil
  | w :: ws, _, h, .cons a b, l => by
    simp [W.lows] at h
    exact .cons (Rep.cut h.1 a l) (Reps.cut h.2 b l)
end
theorem FRep.cut {K : PySem.W.Frag} {n m : Nat} : ∀ {fs : List (Str × W)} {gs : List (Str × V)}, W.lows n (fs.map (·.2)) = true → FRep K μ H fs gs → n ≤ m → FRep K (μ.take m) H fs gs
  | _, _, _, .nil, _ => .nil
  | p :: fs, _, h, .cons a b, l => by
    simp [W.lows] at h
    exact .cons ⟨a.1, a.2.cut h.1 l⟩ (FRep.cut h.2 b l)
theorem Sim.other {o : HO} (s : Sim Γ μ st H) (hp : H p = none) : Sim Γ μ st (upd H p o) :=
  ⟨s.len, s.inj, fun i c a hc ha => (s.cell i c a hc ha).kept (ext_upd (.inl hp)) (.inl hp), s.back, s.bl, s.ql, s.qg⟩
theorem get_snoc {α : Type} {l : List α} {x y : α} {i : Nat} (h : (l ++ [x])[i]? = some y) : l[i]? = some y ∨ (i = l.length ∧ y = x) := by
  rcases Nat.lt_or_ge i l.length with q | q
  · rw [List.getElem?_append_left q] at h; exact .inl h
  · rw [List.getElem?_append_right q] at h
    obtain ⟨n, e⟩ : ∃ n, i - l.length = n := ⟨_, rfl⟩
    rw [e] at h
    cases n with
    | zero => simp at h; exact .inr ⟨by omega, h.symm⟩
    | succ n => simp at h
def Sto.push (st : Sto) (c : Cell) : Sto := ⟨st.c ++ [c], st.d⟩
theorem Sim.new {o : HO} {c : Cell} (s : Sim Γ μ st H) (hp : H p = none) (hc : CellOk Γ (μ ++ [p]) (upd H p o) p c) (hb : c.low st.c.length = true) : Sim Γ (μ ++ [p]) (st.push c) (upd H p o) := by
  have old : ∀ (i : Nat) d, st.c[i]? = some d → d.own = true → μ[i]? = some p → False := fun i d h1 h2 h3 => by
    obtain ⟨u, q⟩ := (s.cell i d p h1 h3).some_ h2
    rw [hp] at q; cases q
  have mold : ∀ (i : Nat) d a, st.c[i]? = some d → (μ ++ [p])[i]? = some a → μ[i]? = some a := fun i d a h m => by
    have h1 := (List.getElem?_eq_some_iff.mp h).1
    have h2 := s.len
    rw [List.getElem?_append_left (by omega)] at m
    exact m
  have mnew : ∀ a, (μ ++ [p])[st.c.length]? = some a → a = p := fun a m => by
    rw [← s.len] at m
    simp at m
    exact m.symm
  refine ⟨by simp [s.len, Sto.push], fun i j a c' d' h1 h2 o1 o2 m1 m2 => ?_, fun i c' a h1 m1 => ?_, fun i c' h1 hk => ?_, by have := s.bl; simp [Sto.push]; omega, s.ql, s.qg⟩
  · rcases get_snoc h1 with h1 | ⟨e1, z1⟩
    · rcases get_snoc h2 with h2 | ⟨e2, z2⟩
      · exact s.inj i j a _ _ h1 h2 o1 o2 (mold _ _ _ h1 m1) (mold _ _ _ h2 m2)
      · subst e2
        have e := mnew _ m2
        subst e
        exact (old i c' h1 o1 (mold _ _ _ h1 m1)).elim
    · rcases get_snoc h2 with h2 | ⟨e2, z2⟩
      · subst e1
        have e := mnew _ m1
        subst e
        exact (old j d' h2 o2 (mold _ _ _ h2 m2)).elim
      · omega
  · rcases get_snoc h1 with h1 | ⟨e1, z1⟩
    · exact (s.cell i c' a h1 (mold _ _ _ h1 m1)).kept (ext_new hp) (.inl hp)
    · subst e1 z1
      have e := mnew _ m1
      subst e
      exact hc
  · rcases get_snoc h1 with h1 | ⟨e1, z1⟩
    · exact s.back i c' h1 hk
    · subst e1 z1; rw [s.qg _ s.bl]; exact hb
def mark (d : Option Nat) (n : Nat) (b : Bool) : Option Nat := if b = true then d else some (match d with | none => n | some k => min k n)
def Sto.put (st : Sto) (n : Nat) (c : Cell) (b : Bool) : Sto := ⟨st.c.set n c, mark st.d n b⟩
theorem mark_lt {d : Option Nat} {n i : Nat} {b : Bool} (h : ∀ k, mark d n b = some k → i < k) : (∀ k, d = some k → i < k) ∧ (b = false → i < n) := by
  cases b with
  | true => exact ⟨h, fun z => by cases z⟩
  | false =>
    cases d with
    | none => exact ⟨fun k z => (by cases z), fun _ => h n rfl⟩
    | some m =>
      have := h (min m n) rfl
      exact ⟨fun k z => by cases z; omega, fun _ => by omega⟩
theorem Sim.write {o : HO} {c c' : Cell} {n : Nat} {ys : List V} {b : Bool} (s : Sim Γ μ st H) (hn : st.c[n]? = some c') (hm : μ[n]? = some p) (hp : H p = some (.lst ys)) (ho : c'.own = true) (ho' : c.own = true) (hc : CellOk Γ μ (upd H p o) p c)
    (hb : b = true → ∀ m, n ≤ m → c'.low m = true → c.low m = true) : Sim Γ μ (st.put n c b) (upd H p o) := by
  have hlt := (List.getElem?_eq_some_iff.mp hn).1
  have own : ∀ (i : Nat) d, (st.c.set n c)[i]? = some d → d.own = true → ∃ d', st.c[i]? = some d' ∧ d'.own = true := fun i d h1 h2 => by
    by_cases z : n = i
    · subst z; exact ⟨c', hn, ho⟩
    · rw [List.getElem?_set_ne z] at h1; exact ⟨d, h1, h2⟩
  refine ⟨by simp [s.len, Sto.put], fun i j a d e h1 h2 o1 o2 m1 m2 => ?_, fun i d a h1 m1 => ?_, fun i d h1 hk => ?_, by have := s.bl; simp [Sto.put]; omega, s.ql, s.qg⟩
  · obtain ⟨d', x1, x2⟩ := own i d h1 o1
    obtain ⟨e', y1, y2⟩ := own j e h2 o2
    exact s.inj i j a d' e' x1 y1 x2 y2 m1 m2
  · by_cases z : n = i
    · subst z
      have h1 : (st.c.set n c)[n]? = some d := h1
      rw [List.getElem?_set_self hlt] at h1
      cases h1
      rw [hm] at m1; cases m1
      exact hc
    · have h1 : (st.c.set n c)[i]? = some d := h1
      rw [List.getElem?_set_ne z] at h1
      refine (s.cell i d a h1 m1).kept (ext_upd (.inr ⟨_, hp⟩)) (.inr ⟨⟨_, hp⟩, fun od q => ?_⟩)
      subst q
      exact z (s.inj n i a c' d hn h1 ho od hm m1)
  · obtain ⟨k1, k2⟩ := mark_lt hk
    have h1 : (st.c.set n c)[i]? = some d := h1
    by_cases z : n = i
    · subst z
      rw [List.getElem?_set_self hlt] at h1
      cases h1
      cases b with
      | true => exact hb rfl _ (s.qi n) (s.back n c' hn k1)
      | false => exact absurd (k2 rfl) (Nat.lt_irrefl _)
    · rw [List.getElem?_set_ne z] at h1
      exact s.back i d h1 k1
theorem getTake {α : Type} {l : List α} {n i : Nat} {x : α} (h : (l.take n)[i]? = some x) : l[i]? = some x ∧ i < n := by
  have hl := (List.getElem?_eq_some_iff.mp h).1
  rw [List.length_take] at hl
  rw [List.getElem?_take_of_lt (by omega)] at h
  exact ⟨h, by omega⟩
def Sto.may (st : Sto) (n : Nat) : Bool := match st.d with | none => true | some k => decide (n ≤ k)
def Sto.cut (st : Sto) (n : Nat) : Sto := ⟨st.c.take n, none⟩
theorem Sto.may_lt {st : Sto} {n i : Nat} (h : st.may n = true) (hi : i < n) : ∀ k, st.d = some k → i < k := fun k e => by
  unfold Sto.may at h
  rw [e] at h
  have := of_decide_eq_true h
  omega
theorem Sim.cut {n : Nat} (s : Sim Γ μ st H) (h : st.may n = true) (hb : Γ.b ≤ n) : Sim Γ (μ.take n) (st.cut n) H := by
  refine ⟨by simp [s.len, Sto.cut], fun i j a c' d' h1 h2 o1 o2 m1 m2 => ?_, fun i c a h1 m1 => ?_, fun i c h1 _ => ?_, by have := s.bl; simp [Sto.cut]; omega, s.ql, s.qg⟩
  · exact s.inj i j a c' d' (getTake h1).1 (getTake h2).1 o1 o2 (getTake m1).1 (getTake m2).1
  · obtain ⟨h1, hi⟩ := getTake h1
    have hq := s.qn hb hi
    have hb := s.back i c h1 (Sto.may_lt h hi)
    have hc := s.cell i c a h1 (getTake m1).1
    cases c with
    | lst ws => obtain ⟨xs, q1, q2⟩ := hc; exact ⟨xs, q1, Reps.cut (n := Γ.q i) hb q2 hq⟩
    | scr ws => obtain ⟨xs, q1, q2⟩ := hc; exact ⟨xs, q1, Reps.cut (n := Γ.q i) hb q2 hq⟩
    | ins k fs => obtain ⟨dx, gs, q1, q2⟩ := hc; exact ⟨dx, gs, q1, FRep.cut (n := Γ.q i) hb q2 hq⟩
    | dct fs => obtain ⟨gs, q1, q2⟩ := hc; exact ⟨gs, q1, FRep.cut (n := Γ.q i) hb q2 hq⟩
  · obtain ⟨h1, hi⟩ := getTake h1
    exact s.back i c h1 (Sto.may_lt h hi)
def relo (st : Sto) (n : Nat) : List W → List Nat → Option (List W × List Nat)
  | [], ks => some ([], ks)
  | .ref k :: r, ks => if n ≤ k ∧ k ∉ ks then (match st.c[k]? with
    | some (.lst us) => if W.pures us = true then (match relo st n r (ks ++ [k]) with | some (vs, js) => some (.ref (n + ks.length) :: vs, js) | none => none) else none
    | _ => none) else none
  | w :: r, ks => if W.pure w = true then (match relo st n r ks with | some (vs, js) => some (w :: vs, js) | none => none) else none
structure ReloOk (st : Sto) (n : Nat) (ks : List Nat) : Prop where
  nd : ks.Nodup
  at' : ∀ k ∈ ks, n ≤ k ∧ ∃ us, st.c[k]? = some (.lst us) ∧ W.pures us = true
theorem relo_ok {n : Nat} : ∀ {ws vs : List W} {ks js : List Nat}, relo st n ws ks = some (vs, js) → ReloOk st n ks → ReloOk st n js ∧ (∃ t, js = ks ++ t) ∧ ∀ {K : PySem.W.Frag} {H : Hp} {xs : List V} {ν : List Addr}, (∀ (q k : Nat) a, js[q]? = some k → μ[k]? = some a → ν[n + q]? = some a) → Reps K μ H ws xs → Reps K ν H vs xs
  | [], vs, ks, js, h, g => by
    unfold relo at h
    cases h
    exact ⟨g, ⟨[], by simp⟩, fun _ r => by cases r; exact .nil⟩
  | w :: r, vs, ks, js, h, g => by
    have pureCase : ∀ {vs2 : List W} {js : List Nat}, W.pure w = true → relo st n r ks = some (vs2, js) → vs = w :: vs2 → ReloOk st n js ∧ (∃ t, js = ks ++ t) ∧ ∀ {K : PySem.W.Frag} {H : Hp} {xs : List V} {ν : List Addr}, (∀ (q k : Nat) a, js[q]? = some k → μ[k]? = some a → ν[n + q]? = some a) → Reps K μ H (w :: r) xs → Reps K ν H vs xs := fun hp hr hv => by
      obtain ⟨g1, g2, g3⟩ := relo_ok hr g
      refine ⟨g1, g2, fun hν rr => ?_⟩
      subst hv
      cases rr with
      | cons a b => exact .cons (Rep.pure hp a) (g3 hν b)
    cases w with
    | ref k =>
      unfold relo at h
      split at h
      · rename_i hk
        split at h
        · rename_i us hc
          split at h
          · rename_i hp
            split at h
            · rename_i vs2 js2 hr
              cases h
              have gg : ReloOk st n (ks ++ [k]) := ⟨by
                rw [List.nodup_append]
                refine ⟨g.nd, by simp, fun a ha b hb => ?_⟩
                rw [List.mem_singleton.mp hb]
                exact fun z => hk.2 (z ▸ ha), fun a ha => by
                rcases List.mem_append.mp ha with ha | ha
                · exact g.at' a ha
                · rw [List.mem_singleton.mp ha]; exact ⟨hk.1, us, hc, hp⟩⟩
              obtain ⟨g1, ⟨t, g2⟩, g3⟩ := relo_ok hr gg
              refine ⟨g1, ⟨k :: t, by rw [g2, List.append_assoc]; rfl⟩, fun hν rr => ?_⟩
              cases rr with
              | cons a b =>
                cases a with
                | ref hm =>
                  refine .cons (.ref (hν ks.length k _ ?_ hm)) (g3 hν b)
                  rw [g2, List.append_assoc, List.getElem?_append_right (Nat.le_refl _), Nat.sub_self]; rfl
            · cases h
          · cases h
        · cases h
      · cases h
    | non =>
      unfold relo at h
      split at h
      · rename_i hp
        split at h
        · rename_i vs2 js2 hr; cases h; exact pureCase hp hr rfl
        · cases h
      · cases h
    | bl b =>
      unfold relo at h
      split at h
      · rename_i hp
        split at h
        · rename_i vs2 js2 hr; cases h; exact pureCase hp hr rfl
        · cases h
      · cases h
    | int b =>
      unfold relo at h
      split at h
      · rename_i hp
        split at h
        · rename_i vs2 js2 hr; cases h; exact pureCase hp hr rfl
        · cases h
      · cases h
    | str b =>
      unfold relo at h
      split at h
      · rename_i hp
        split at h
        · rename_i vs2 js2 hr; cases h; exact pureCase hp hr rfl
        · cases h
      · cases h
    | tup b =>
      unfold relo at h
      split at h
      · rename_i hp
        split at h
        · rename_i vs2 js2 hr; cases h; exact pureCase hp hr rfl
        · cases h
      · cases h
def posOf (k : Nat) : List Nat → Option Nat
  | [] => none
  | x :: r => if x = k then some 0 else (posOf k r).map (· + 1)
theorem posOf_some {k : Nat} : ∀ {l : List Nat} {j : Nat}, posOf k l = some j → l[j]? = some k
  | x :: r, j, h => by
    unfold posOf at h
    split at h
    · rename_i e; cases h; rw [e]; rfl
    · cases e : posOf k r with
      | none => rw [e] at h; cases h
      | some i => rw [e] at h; cases h; exact posOf_some (l := r) e
abbrev Gs := List Nat × List Cell
def mapA (g : W → Gs → Option (W × Gs)) : List W → Gs → Option (List W × Gs)
  | [], s => some ([], s)
  | w :: r, s => match g w s with
    | some (w', s1) => (match mapA g r s1 with | some (r', s2) => some (w' :: r', s2) | none => none)
    | none => none
def gcW (st : Sto) (n : Nat) : Nat → W → Gs → Option (W × Gs)
  | 0, _, _ => none
  | f + 1, w, s => match w with
    | .ref k => if k < n then some (.ref k, s) else (match posOf k s.1 with
      | some j => some (.ref (n + j), s)
      | none => (match st.c[k]? with
        | some (.lst us) => (match mapA (gcW st n f) us s with
          | some (us', s1) => if k ∈ s1.1 then none else some (.ref (n + s1.1.length), (s1.1 ++ [k], s1.2 ++ [.lst us']))
          | none => none)
        | _ => none))
    | .tup us => (match mapA (gcW st n f) us s with | some (us', s1) => some (.tup us', s1) | none => none)
    | w => some (w, s)
def nu (μ : List Addr) (n : Nat) (ks : List Nat) : List Addr := μ.take n ++ ks.map fun k => μ.getD k 0
structure GcI (st : Sto) (n : Nat) (s : Gs) : Prop where
  len : s.2.length = s.1.length
  nd : s.1.Nodup
  at' : ∀ (j k : Nat), s.1[j]? = some k → n ≤ k ∧ ∃ us us', st.c[k]? = some (.lst us) ∧ s.2[j]? = some (.lst us') ∧ W.lows (n + j) us' = true ∧ ∀ (K : PySem.W.Frag) (μ : List Addr) (H : Hp) (xs : List V), st.c.length = μ.length → n ≤ μ.length → Reps K μ H us xs → Reps K (nu μ n s.1) H us' xs
theorem nu_mono {K : PySem.W.Frag} {μ : List Addr} {H : Hp} {n : Nat} {ks : List Nat} (t : List Nat) : Ext K (nu μ n ks) (nu μ n (ks ++ t)) H H := ⟨fun i a h => by
  unfold nu at h ⊢
  rw [List.map_append, ← List.append_assoc]
  have := (List.getElem?_eq_some_iff.mp h).1
  rw [List.getElem?_append_left this]; exact h, fun _ _ h => h⟩
theorem nu_at {μ : List Addr} {n j k : Nat} {a : Addr} {ks : List Nat} (hn : n ≤ μ.length) (h : ks[j]? = some k) (ha : μ[k]? = some a) : (nu μ n ks)[n + j]? = some a := by
  unfold nu
  have tl : (μ.take n).length = n := by rw [List.length_take]; omega
  rw [List.getElem?_append_right (by omega), tl, Nat.add_sub_cancel_left, List.getElem?_map, h]
  show some (μ.getD k 0) = some a
  rw [List.getD_eq_getElem?_getD, ha]; rfl
def GcP (st : Sto) (n : Nat) (s s1 : Gs) : Prop := GcI st n s1 ∧ ∃ t, s1.1 = s.1 ++ t
theorem mapA_ok {st : Sto} {n : Nat} {g : W → Gs → Option (W × Gs)}
    (hg : ∀ w s w' s1, g w s = some (w', s1) → GcI st n s → GcP st n s s1 ∧ W.low (n + s1.1.length) w' = true ∧ ∀ (K : PySem.W.Frag) (μ : List Addr) (H : Hp) (v : V), st.c.length = μ.length → n ≤ μ.length → Rep K μ H w v → Rep K (nu μ n s1.1) H w' v) :
    ∀ (us : List W) (s : Gs) (us' : List W) (s1 : Gs), mapA g us s = some (us', s1) → GcI st n s → GcP st n s s1 ∧ W.lows (n + s1.1.length) us' = true ∧ ∀ (K : PySem.W.Frag) (μ : List Addr) (H : Hp) (xs : List V), st.c.length = μ.length → n ≤ μ.length → Reps K μ H us xs → Reps K (nu μ n s1.1) H us' xs
  | [], s, us', s1, h, i => by
    cases h
    exact ⟨⟨i, [], by simp⟩, rfl, fun _ _ _ _ _ _ r => by cases r; exact .nil⟩
  | w :: r, s, us', s1, h, i => by
    unfold mapA at h
    cases e1 : g w s with
    | none => rw [e1] at h; cases h
    | some p =>
      obtain ⟨w', s2⟩ := p
      rw [e1] at h
      dsimp only at h
      cases e2 : mapA g r s2 with
      | none => rw [e2] at h; cases h
      | some p2 =>
        obtain ⟨r', s3⟩ := p2
        rw [e2] at h
        cases h
        obtain ⟨⟨i2, t2, q2⟩, l2, r2⟩ := hg _ _ _ _ e1 i
        obtain ⟨⟨i3, t3, q3⟩, l3, r3⟩ := mapA_ok hg _ _ _ _ e2 i2
        refine ⟨⟨i3, t2 ++ t3, by rw [q3, q2, List.append_assoc]⟩, ?_, fun K μ H xs hm hn rr => ?_⟩
        · show (W.low _ w' && W.lows _ r') = true
          have : n + s2.1.length ≤ n + s1.1.length := by rw [q3, List.length_append]; omega
          rw [W.low_mono this l2, l3]; rfl
        · cases rr with
          | cons a b =>
            refine .cons ?_ (r3 K μ H _ hm hn b)
            rw [q3]
            exact (r2 K μ H _ hm hn a).mono (nu_mono t3)
theorem gcW_ok {st : Sto} {n : Nat} : ∀ (f : Nat) (w : W) (s : Gs) (w' : W) (s1 : Gs), gcW st n f w s = some (w', s1) → GcI st n s → GcP st n s s1 ∧ W.low (n + s1.1.length) w' = true ∧ ∀ (K : PySem.W.Frag) (μ : List Addr) (H : Hp) (v : V), st.c.length = μ.length → n ≤ μ.length → Rep K μ H w v → Rep K (nu μ n s1.1) H w' v
  | 0, w, s, w', s1, h, _ => by cases h
  | f + 1, w, s, w', s1, h, i => by
    have leaf : W.pure w = true → (some (w, s) : Option (W × Gs)) = some (w', s1) → GcP st n s s1 ∧ W.low (n + s1.1.length) w' = true ∧ ∀ (K : PySem.W.Frag) (μ : List Addr) (H : Hp) (v : V), st.c.length = μ.length → n ≤ μ.length → Rep K μ H w v → Rep K (nu μ n s1.1) H w' v := fun hp h => by
      cases h
      exact ⟨⟨i, [], by simp⟩, W.pure_low hp, fun K μ H v _ _ r => Rep.pure hp r⟩
    cases w with
    | non => exact leaf rfl h
    | bl b => exact leaf rfl h
    | int b => exact leaf rfl h
    | str b => exact leaf rfl h
    | tup us =>
      have h : (match mapA (gcW st n f) us s with | some (us', s1) => some (W.tup us', s1) | none => none) = some (w', s1) := h
      cases e : mapA (gcW st n f) us s with
      | none => rw [e] at h; cases h
      | some p =>
        obtain ⟨us', s2⟩ := p
        rw [e] at h
        cases h
        obtain ⟨g1, g2, g3⟩ := mapA_ok (fun w s w' s1 => gcW_ok f w s w' s1) _ _ _ _ e i
        refine ⟨g1, g2, fun K μ H v hm hn r => ?_⟩
        cases r with
        | tup a b =>
          exact .tup a (g3 K μ H _ hm hn b)
    | ref k =>
      have h : (if k < n then some (W.ref k, s) else (match posOf k s.1 with
        | some j => some (W.ref (n + j), s)
        | none => (match st.c[k]? with
          | some (.lst us) => (match mapA (gcW st n f) us s with
            | some (us', s1) => if k ∈ s1.1 then none else some (W.ref (n + s1.1.length), (s1.1 ++ [k], s1.2 ++ [Cell.lst us']))
            | none => none)
          | _ => none))) = some (w', s1) := h
      by_cases hk : k < n
      · rw [if_pos hk] at h
        cases h
        refine ⟨⟨i, [], by simp⟩, ?_, fun K μ H v hm hn r => ?_⟩
        · show decide (k < _) = true
          rw [decide_eq_true_eq]; omega
        · cases r with
          | ref a =>
            refine .ref ?_
            unfold nu
            rw [List.getElem?_append_left (by rw [List.length_take]; omega), List.getElem?_take_of_lt hk]; exact a
      · rw [if_neg hk] at h
        cases ep : posOf k s.1 with
        | some j =>
          rw [ep] at h
          cases h
          have hj := posOf_some ep
          refine ⟨⟨i, [], by simp⟩, ?_, fun K μ H v hm hn r => ?_⟩
          · have := (List.getElem?_eq_some_iff.mp hj).1
            show decide (n + j < _) = true
            rw [decide_eq_true_eq]; omega
          · cases r with
            | ref a => exact .ref (nu_at hn hj a)
        | none =>
          rw [ep] at h
          dsimp only at h
          cases ec : st.c[k]? with
          | none => rw [ec] at h; cases h
          | some cc =>
            rw [ec] at h
            cases cc with
            | scr us => cases h
            | ins c fs => cases h
            | dct fs => cases h
            | lst us =>
              dsimp only at h
              cases e : mapA (gcW st n f) us s with
              | none => rw [e] at h; cases h
              | some p =>
                obtain ⟨us', s2⟩ := p
                rw [e] at h
                dsimp only at h
                split at h
                · cases h
                · rename_i hnk
                  cases h
                  obtain ⟨⟨i2, t2, q2⟩, g2, g3⟩ := mapA_ok (fun w s w' s1 => gcW_ok f w s w' s1) _ _ _ _ e i
                  refine ⟨⟨⟨by simp [i2.len], ?_, fun j k' hj => ?_⟩, t2 ++ [k], by show s2.1 ++ [k] = _; rw [q2, List.append_assoc]⟩, ?_, fun K μ H v hm hn r => ?_⟩
                  · show (s2.1 ++ [k]).Nodup
                    rw [List.nodup_append]
                    refine ⟨i2.nd, by simp, fun a ha b hb => ?_⟩
                    rw [List.mem_singleton.mp hb]
                    exact fun z => hnk (z ▸ ha)
                  · have hj : (s2.1 ++ [k])[j]? = some k' := hj
                    rcases Nat.lt_or_ge j s2.1.length with q | q
                    · rw [List.getElem?_append_left q] at hj
                      obtain ⟨a1, vs, vs', a2, a3, a4, a5⟩ := i2.at' j k' hj
                      refine ⟨a1, vs, vs', a2, ?_, a4, fun K μ H xs hm hn r => ?_⟩
                      · show (s2.2 ++ [Cell.lst us'])[j]? = _
                        rw [List.getElem?_append_left (by rw [i2.len]; exact q)]; exact a3
                      · exact (a5 K μ H xs hm hn r).mono (nu_mono [k])
                    · rw [List.getElem?_append_right q] at hj
                      have hz : j - s2.1.length = 0 := by
                        have := (List.getElem?_eq_some_iff.mp hj).1
                        simp at this; omega
                      rw [hz] at hj
                      cases hj
                      have ej : j = s2.1.length := by omega
                      refine ⟨by omega, us, us', ec, ?_, ?_, fun K μ H xs hm hn r => ?_⟩
                      · show (s2.2 ++ [Cell.lst us'])[j]? = _
                        rw [ej, ← i2.len, List.getElem?_append_right (Nat.le_refl _), Nat.sub_self]; rfl
                      · rw [ej]; exact g2
                      · exact (g3 K μ H xs hm hn r).mono (nu_mono [k])
                  · show decide (n + s2.1.length < n + (s2.1 ++ [k]).length) = true
                    rw [decide_eq_true_eq, List.length_append]
                    show _ < n + (s2.1.length + 1)
                    omega
                  · cases r with
                    | ref a =>
                      refine .ref (nu_at hn ?_ a)
                      show (s2.1 ++ [k])[s2.1.length]? = _
                      rw [List.getElem?_append_right (Nat.le_refl _), Nat.sub_self]; rfl
theorem gcI_nil (st : Sto) (n : Nat) : GcI st n ([], []) := ⟨rfl, List.nodup_nil, fun j k h => by cases h⟩
def gcF (n : Nat) (w : W) (st : Sto) : Res W := match gcW st n 40 w ([], []) with
  | some (w', s) => .ok w' ⟨st.c.take n ++ s.2, none⟩
  | none => .ok w st
def trim (n : Nat) (w : W) (st : Sto) : Res W :=
  if st.may n = true then
    (if W.pure w = true then .ok w (st.cut n) else
    match w with
    | .ref k => if n ≤ k then (match st.c[k]? with
      | some (.lst ws) => if W.pures ws = true then .ok (.ref (st.cut n).c.length) ((st.cut n).push (.lst ws)) else gcF n w st
      | _ => .ok w st) else .ok w st
    | .tup ws => (match relo st n ws [] with
      | some (vs, ks) => .ok (.tup vs) ⟨st.c.take n ++ ks.map fun k => st.c.getD k (.lst []), none⟩
      | none => gcF n w st)
    | _ => .ok w st)
  else .ok w st
def mrg : Option Nat → Option Nat → Option Nat
  | none, x => x
  | some k, none => some k
  | some k, some j => some (min k j)
theorem mrg_lt {d e : Option Nat} {i : Nat} (h : ∀ k, mrg d e = some k → i < k) : (∀ k, d = some k → i < k) ∧ ∀ k, e = some k → i < k := by
  cases d with
  | none => exact ⟨fun k z => (by cases z), h⟩
  | some a =>
    cases e with
    | none => exact ⟨h, fun k z => (by cases z)⟩
    | some b =>
      have := h (min a b) rfl
      exact ⟨fun k z => (by cases z; omega), fun k z => (by cases z; omega)⟩
def reM (d : Option Nat) : Res W → Res W
  | .ok w st => .ok w ⟨st.c, mrg d st.d⟩
  | .exc c p st => .exc c p ⟨st.c, mrg d st.d⟩
  | .err => .err
theorem reM_none (r : Res W) : reM none r = r := by cases r <;> rfl
def Mark (F : List W → Sto → Res W) : Prop := ∀ ws st, F ws st = reM st.d (F ws ⟨st.c, none⟩)
def frameQ (Γ : Gf) (st : Sto) (i : Nat) : Nat := if st.c.length ≤ i then i else match st.d with
  | none => Γ.q i
  | some k => if i < k then Γ.q i else st.c.length
theorem FRep.low {K : PySem.W.Frag} {n : Nat} : ∀ {fs : List (Str × W)} {gs : List (Str × V)}, FRep K μ H fs gs → μ.length ≤ n → W.lows n (fs.map (·.2)) = true
  | _, _, .nil, _ => rfl
  | p :: fs, _, .cons a b, h => by
    show (W.low n p.2 && W.lows n (fs.map (·.2))) = true
    rw [Rep.low a.2 h, FRep.low b h]; rfl
theorem CellOk.low {c : Cell} {n : Nat} (h : CellOk Γ μ H a c) (hn : μ.length ≤ n) : c.low n = true := by
  cases c with
  | lst ws => obtain ⟨xs, _, r⟩ := h; exact Reps.low r hn
  | scr ws => obtain ⟨xs, _, r⟩ := h; exact Reps.low r hn
  | ins c fs => obtain ⟨dx, gs, _, r⟩ := h; exact FRep.low r hn
  | dct fs => obtain ⟨gs, _, r⟩ := h; exact FRep.low r hn
theorem Sim.enter (s : Sim Γ μ st H) : Sim ⟨Γ.toGm, st.c.length, frameQ Γ st⟩ μ ⟨st.c, none⟩ H := by
  refine ⟨s.len, s.inj, s.cell, fun i c h _ => ?_, Nat.le_refl _, fun i hi => ?_, fun i hi => ?_⟩
  · have h : st.c[i]? = some c := h
    have hi := (List.getElem?_eq_some_iff.mp h).1
    have all : c.low st.c.length = true := by
      have hm : i < μ.length := by rw [s.len]; exact hi
      exact (s.cell i c _ h (List.getElem?_eq_getElem hm)).low (by rw [s.len]; exact Nat.le_refl _)
    show c.low (frameQ Γ st i) = true
    unfold frameQ
    rw [if_neg (by omega)]
    cases e : st.d with
    | none => exact s.back i c h fun k z => by rw [e] at z; cases z
    | some k =>
      dsimp only
      split
      · rename_i hk
        exact s.back i c h fun k' z => by rw [e] at z; cases z; exact hk
      · exact all
  · show i ≤ frameQ Γ st i ∧ frameQ Γ st i ≤ st.c.length
    have hi : i < st.c.length := hi
    unfold frameQ
    rw [if_neg (by omega)]
    have q1 := s.qi i
    have q2 := s.qn s.bl hi
    cases st.d with
    | none => exact ⟨q1, q2⟩
    | some k =>
      dsimp only
      split
      · exact ⟨q1, q2⟩
      · exact ⟨by omega, Nat.le_refl _⟩
  · show frameQ Γ st i = i
    have hi : st.c.length ≤ i := hi
    unfold frameQ
    rw [if_pos hi]
theorem Sim.leave {st' : Sto} (s0 : Sim Γ μ st H) (s : Sim ⟨Γ.toGm, st.c.length, frameQ Γ st⟩ μ' st' H') : Sim Γ μ' ⟨st'.c, mrg st.d st'.d⟩ H' := by
  refine ⟨s.len, s.inj, s.cell, fun i c h hk => ?_, Nat.le_trans s0.bl s.bl, s0.ql, s0.qg⟩
  obtain ⟨k1, k2⟩ := mrg_lt hk
  have q := s.back i c h k2
  have e : frameQ Γ st i = Γ.q i := by
    unfold frameQ
    split
    · rename_i hi
      exact (s0.qg i (Nat.le_trans s0.bl hi)).symm
    · cases e : st.d with
      | none => rfl
      | some k => dsimp only; rw [if_pos (k1 k e)]
  have q : c.low (frameQ Γ st i) = true := q
  rw [e] at q
  exact q
end
end RB
namespace RB
open PySem PySem.Spec PyProof.Rows L2
theorem PE_imp {X : Cx} {e : Expr} {t t' : TE} (h : PE X e t) (k : ∀ σ H Q, t' σ H Q → t σ H Q) : PE X e t' := ⟨fun pins s σ H Q I q => h.run pins s σ H Q I (k _ _ _ q)⟩
theorem PT_imp {X : Cx} {e : Expr} {t t' : TT} (h : PT X e t) (k : ∀ σ H Q, t' σ H Q → t σ H Q) : PT X e t' := ⟨fun pins s σ H Q I q => h.run pins s σ H Q I (k _ _ _ q)⟩
theorem PW_imp {X : Cx} {e : Expr} {t t' : TT} (h : PW X e t) (k : ∀ σ H Q, t' σ H Q → t σ H Q) : PW X e t' := ⟨fun wh pins s σ H Q I q => h.run wh pins s σ H Q I (k _ _ _ q)⟩
theorem PA_imp {X : Cx} {e : List Expr} {t t' : TA} (h : PA X e t) (k : ∀ σ H Q, t' σ H Q → t σ H Q) : PA X e t' := ⟨fun pos pins s σ H Q I q => h.run pos pins s σ H Q I (k _ _ _ q)⟩
theorem PS_imp {X : Cx} {e : Stmt} {t t' : TS} (h : PS X e t) (k : ∀ D σ H, t' D σ H → t D σ H) : PS X e t' := ⟨fun pins s σ H D I q => h.run pins s σ H D I (k _ _ _ q)⟩
theorem PSs_imp {X : Cx} {e : List Stmt} {t t' : TS} (h : PSs X e t) (k : ∀ D σ H, t' D σ H → t D σ H) : PSs X e t' := ⟨fun pins s σ H D I q => h.run pins s σ H D I (k _ _ _ q)⟩
abbrev RR (α β : Type) := List Addr → Hp → α → β → Prop
section
variable {α β γ δ : Type}
def Post (Γ : Gf) (Wx : WX) (R : RR α β) (μ : List Addr) (σ : L2.St) (H : Hp) (Q : β → Hp → Prop) : Res α → Prop
  | .ok a st' => ∀ μ' H' b, Ext Γ.K μ μ' H H' → Sim Γ μ' st' H' → R μ' H' a b → Q b H'
  | .exc c p st' => ∀ μ' H' d v, Ext Γ.K μ μ' H H' → Sim Γ μ' st' H' → Rep Γ.K μ' H' p v → H' d = some (.xd [(Γ.fld c, v)]) → Wx (.ref (Γ.ec c)) (some d) σ H'
  | .err => False
def tG (Γ : Gf) (Wx : WX) (R : RR α β) (f : Lo → Sto → Res α) : L2.St → Hp → (β → Hp → Prop) → Prop := fun σ H Q =>
  ∃ μ l st, Sim Γ μ st H ∧ LRep Γ.K μ H l σ ∧ Post Γ Wx R μ σ H Q (f l st)
abbrev tE (Γ : Gf) (Wx : WX) (f : Ev) : TE := tG Γ Wx (Rep Γ.K) f
abbrev tA (Γ : Gf) (Wx : WX) (f : Evs) : TA := tG Γ Wx (Reps Γ.K) f
abbrev tT (Γ : Gf) (Wx : WX) (f : Bv) : TT := tG Γ Wx (fun _ _ a b => a = b) f
variable {Γ : Gf} {Wx : WX} {R : RR α β} {R' : RR γ δ} {μ μ' : List Addr} {σ : L2.St} {H H' : Hp} {l : Lo} {st : Sto}
theorem Post.mono {Q : β → Hp → Prop} {r : Res α} (h : Post Γ Wx R μ σ H Q r) (e : Ext Γ.K μ μ' H H') : Post Γ Wx R μ' σ H' Q r := by
  cases r with
  | ok a st' => exact fun μ2 H2 b e2 => h μ2 H2 b (e.trans e2)
  | exc c p st' => exact fun μ2 H2 d v e2 => h μ2 H2 d v (e.trans e2)
  | err => exact h
theorem tG_bind {f : Lo → Sto → Res α} {k : α → Sto → Res γ} {Q : δ → Hp → Prop} (hs : Sim Γ μ st H) (hl : LRep Γ.K μ H l σ) (h : Post Γ Wx R' μ σ H Q ((f l st).bind k)) (S : β → Hp → Prop)
    (hS : ∀ a st1 μ1 H1 b, Ext Γ.K μ μ1 H H1 → Sim Γ μ1 st1 H1 → R μ1 H1 a b → Post Γ Wx R' μ1 σ H1 Q (k a st1) → S b H1) : tG Γ Wx R f σ H S := by
  refine ⟨μ, l, st, hs, hl, ?_⟩
  cases e : f l st with
  | ok a st1 =>
    rw [e] at h
    exact fun μ1 H1 b e1 s1 r1 => hS a st1 μ1 H1 b e1 s1 r1 (Post.mono (show Post Γ Wx R' μ σ H Q (k a st1) from h) e1)
  | exc c p st1 => rw [e] at h; exact h
  | err => rw [e] at h; exact h
theorem Post.here {Q : β → Hp → Prop} {a : α} {b : β} (h : Post Γ Wx R μ σ H Q (.ok a st)) (hs : Sim Γ μ st H) (r : R μ H a b) : Q b H := h μ H b .refl hs r
end
def evNil : Evs := fun _ st => .ok [] st
def evCons (a : Ev) (b : Evs) : Evs := fun l st => (a l st).bind fun x st1 => (b l st1).bind fun xs st2 => .ok (x :: xs) st2
def eLoc (i : Nat) : Ev := fun l st => match l[i]? with | some (some w) => .ok w st | _ => .err
def eLit (w : W) : Ev := fun _ st => .ok w st
def eTup (a : Evs) : Ev := fun l st => (a l st).bind fun ws st1 => if ws.length ≤ 1000 then .ok (.tup ws) st1 else .err
def eLst (a : Evs) : Ev := fun l st => (a l st).bind fun ws st1 => if ws.length ≤ 1000 then .ok (.ref st1.c.length) (st1.push (.lst ws)) else .err
def eBin (op : W → W → Sto → Res W) (a b : Ev) : Ev := fun l st => (a l st).bind fun x st1 => (b l st1).bind fun y st2 => op x y st2
def eB (F : List W → Sto → Res W) (a : Evs) : Ev := fun l st => (a l st).bind fun ws st1 => F ws st1
def eU (F : W → Sto → Res W) (a : Ev) : Ev := fun l st => (a l st).bind fun ws st1 => F ws st1
def getL (st : Sto) (n : Nat) : Option (List W) := match st.c[n]? with | some (.lst ws) => some ws | some (.scr ws) => some ws | _ => none
def truth (st : Sto) : W → Option Bool
  | .non => some false
  | .bl b => some b
  | .int i => some (i != 0)
  | .str x => if x.length ≤ sizeLine then some ((x.length : Int) != 0) else none
  | .tup ws => some (!ws.isEmpty)
  | .ref n => match getL st n with | some ws => some (!ws.isEmpty) | none => none
def bTru (a : Ev) : Bv := fun l st => (a l st).bind fun w st1 => match truth st1 w with | some b => .ok b st1 | none => .err
def bNot (a : Bv) : Bv := fun l st => (a l st).bind fun b st1 => .ok (!b) st1
def bAnd (a b : Bv) : Bv := fun l st => (a l st).bind fun c st1 => if c = true then b l st1 else .ok false st1
def bOr (a b : Bv) : Bv := fun l st => (a l st).bind fun c st1 => if c = true then .ok true st1 else b l st1
def eIf (c : Bv) (a b : Ev) : Ev := fun l st => (c l st).bind fun k st1 => if k = true then a l st1 else b l st1
def eAnd (a b : Ev) : Ev := fun l st => (a l st).bind fun x st1 => match x with | .bl c => if c = true then b l st1 else .ok (.bl false) st1 | _ => .err
def eOr (a b : Ev) : Ev := fun l st => (a l st).bind fun x st1 => match x with | .bl c => if c = true then .ok (.bl true) st1 else b l st1 | _ => .err
def eNot (a : Ev) : Ev := fun l st => (a l st).bind fun x st1 => match x with | .bl c => .ok (.bl (!c)) st1 | _ => .err
def bVal (a : Ev) : Bv := fun l st => (a l st).bind fun x st1 => match x with | .bl c => .ok c st1 | _ => .err
section
variable {X : Cx} {Γ : Gf} {Wx : WX} {e a b : Expr} {es : List Expr} {ea eb : Ev} {eas : Evs}
theorem qa_nil : PA X [] (tA Γ Wx evNil) := PA_imp pa_nil fun σ H Q ⟨μ, l, st, hs, hl, h⟩ => h.here hs .nil
theorem qa_cons (ha : PE X e (tE Γ Wx ea)) (hb : PA X es (tA Γ Wx eas)) (he : starEach (e :: es) X.env = (false, eval e X.env) :: starEach es X.env := by rfl) : PA X (e :: es) (tA Γ Wx (evCons ea eas)) :=
  PA_imp (pa_cons ha hb he) fun σ H Q ⟨μ, l, st, hs, hl, h⟩ => tG_bind hs hl h _ fun w st1 μ1 H1 v e1 s1 r1 h1 => tG_bind s1 (hl.mono e1) h1 _ fun ws st2 μ2 H2 vs e2 s2 r2 h2 => h2.here s2 (.cons (r1.mono e2) r2)
theorem qe_loc (i : Nat) {x : Str} {pos : Pos} (hN : X.N[i]? = some x := by rfl) (hv : Vis X.env.scope x := by first | exact Or.inl rfl | exact Or.inr (Or.inl rfl) | exact Or.inr (Or.inr rfl)) (hd : (x == ("__debug__" : Str)) = false := by decide)
    (hcd : (x == ("__classdict__" : Str)) = false := by decide) : PE X (.Name x pos) (tE Γ Wx (eLoc i)) :=
  PE_imp (pe_var hN hv hd hcd) fun σ H Q ⟨μ, l, st, hs, hl, h⟩ => by
    unfold eLoc at h
    split at h
    · rename_i w hw
      obtain ⟨v, h1, h2⟩ := hl.2 i w hw
      exact ⟨v, h1, h.here hs h2⟩
    · exact h.elim
theorem qe_int {i : Int} {j : Nat} {pos : Pos} : PE X (.Constant (.int i) j pos) (tE Γ Wx (eLit (.int i))) := PE_imp pe_int fun σ H Q ⟨μ, l, st, hs, hl, h⟩ => h.here hs (.int i)
theorem qe_bl {i : Bool} {j : Nat} {pos : Pos} : PE X (.Constant (.bool i) j pos) (tE Γ Wx (eLit (.bl i))) := PE_imp pe_bl fun σ H Q ⟨μ, l, st, hs, hl, h⟩ => h.here hs (.bl i)
theorem qe_non {j : Nat} {pos : Pos} : PE X (.Constant .none j pos) (tE Γ Wx (eLit .non)) := PE_imp pe_non fun σ H Q ⟨μ, l, st, hs, hl, h⟩ => h.here hs .non
theorem qe_str {x : Str} {j : Nat} {pos : Pos} : PE X (.Constant (.str x) j pos) (tE Γ Wx (eLit (.str x))) := PE_imp pe_str fun σ H Q ⟨μ, l, st, hs, hl, h⟩ => h.here hs (.str x)
theorem qe_glob {x : Str} {v : V} {u : Value} {w : W} {pos : Pos} (hg : Gl X x) (hm : X.mg x = some u) (r : RelV v u) (hw : ∀ μ H, Rep Γ.K μ H w v) (hd : (x == ("__debug__" : Str)) = false := by decide) : PE X (.Name x pos) (tE Γ Wx (eLit w)) :=
  PE_imp (pe_glob hg hm r hd) fun σ H Q ⟨μ, l, st, hs, hl, h⟩ => h.here hs (hw _ _)
theorem le1000 {n : Nat} (h : n ≤ 1000) : n ≤ sizeLine := Nat.le_of_lt (small1000 h)
theorem qe_tup {pos : Pos} {x1} (h : PA X es (tA Γ Wx eas)) : PE X (.Tuple es x1 pos) (tE Γ Wx (eTup eas)) :=
  PE_imp (pe_tup h) fun σ H Q ⟨μ, l, st, hs, hl, h⟩ => tG_bind hs hl h _ fun ws st1 μ1 H1 xs e1 s1 r1 h1 => by
    split at h1
    · rename_i hlen
      refine ⟨by rw [← r1.length]; exact le1000 hlen, fun p hp => ?_⟩
      have e2 : Ext Γ.K μ1 μ1 H1 (upd H1 p (.tup xs)) := ext_upd (.inl hp)
      exact h1 _ _ _ e2 (s1.other hp) (.tup (.inl (.inl upd_same)) (r1.mono e2))
    · exact h1.elim
theorem qe_lst {pos : Pos} (h : PA X es (tA Γ Wx eas)) : PE X (.List es pos) (tE Γ Wx (eLst eas)) :=
  PE_imp (pe_lst h) fun σ H Q ⟨μ, l, st, hs, hl, h⟩ => tG_bind hs hl h _ fun ws st1 μ1 H1 xs e1 s1 r1 h1 => by
    split at h1
    · rename_i hlen
      refine ⟨by rw [← r1.length]; exact le1000 hlen, fun p hp => ?_⟩
      have e2 : Ext Γ.K μ1 (μ1 ++ [p]) H1 (upd H1 p (.lst xs)) := ext_new hp
      exact h1 _ _ _ e2 (s1.new hp ⟨xs, upd_same, r1.mono e2⟩ (r1.low (Nat.le_of_eq s1.len))) (.ref (by rw [← s1.len]; simp))
    · exact h1.elim
def OpOk (Γ : Gf) (r : R2) (op : W → W → Sto → Res W) : Prop := ∀ (Wx : WX) μ (σ : L2.St) H st wx wy x y (Q : VK), Sim Γ μ st H → Rep Γ.K μ H wx x → Rep Γ.K μ H wy y → Post Γ Wx (Rep Γ.K) μ σ H Q (op wx wy st) → r x y H Q
theorem tOp_run {r : R2} {op : W → W → Sto → Res W} (hop : OpOk Γ r op) (σ : L2.St) (H : Hp) (Q : VK) (h : tE Γ Wx (eBin op ea eb) σ H Q) : tOp r (tE Γ Wx ea) (tE Γ Wx eb) σ H Q := by
  obtain ⟨μ, l, st, hs, hl, h⟩ := h
  exact tG_bind hs hl h _ fun w st1 μ1 H1 v e1 s1 r1 h1 => tG_bind s1 (hl.mono e1) h1 _ fun w2 st2 μ2 H2 v2 e2 s2 r2 h2 => hop Wx μ2 σ H2 st2 w w2 v v2 Q s2 (r1.mono e2) r2 h2
theorem qe_bin {o : Operator} {r : R2} {op : W → W → Sto → Res W} {pos : Pos} (ho : OpR X (binaryOp o) r) (hop : OpOk Γ r op) (ha : PE X a (tE Γ Wx ea)) (hb : PE X b (tE Γ Wx eb)) : PE X (.BinOp a o b pos) (tE Γ Wx (eBin op ea eb)) :=
  PE_imp (pe_op ho ha hb) fun σ H Q h => tOp_run hop σ H Q h
theorem qe_cmp {o : CmpOp} {r : R2} {op : W → W → Sto → Res W} {pos : Pos} (ho : OpR X (compareOp o) r) (hop : OpOk Γ r op) (ha : PE X a (tE Γ Wx ea)) (hb : PE X b (tE Γ Wx eb)) (hm : behindInMarks o b = false) : PE X (.Compare a [o] [b] pos) (tE Γ Wx (eBin op ea eb)) :=
  PE_imp (pe_cmpR ho ha hb hm) fun σ H Q h => tOp_run hop σ H Q h
theorem tTest_run {f : Ev} (σ : L2.St) (H : Hp) (Q : Bool → Hp → Prop) (h : tT Γ Wx (bVal f) σ H Q) : tTest (tE Γ Wx f) σ H Q := by
  obtain ⟨μ, l, st, hs, hl, h⟩ := h
  exact tG_bind hs hl h _ fun w st1 μ1 H1 v e1 s1 r1 h1 => by
    split at h1
    · cases r1
      exact ⟨_, rfl, h1.here s1 rfl⟩
    · exact h1.elim
theorem qt_cmp {o : CmpOp} {r : R2} {op : W → W → Sto → Res W} {pos : Pos} (ho : OpR X (compareOp o) r) (hop : OpOk Γ r op) (ha : PE X a (tE Γ Wx ea)) (hb : PE X b (tE Γ Wx eb)) (hm : behindInMarks o b = false) : PT X (.Compare a [o] [b] pos) (tT Γ Wx (bVal (eBin op ea eb))) :=
  PT_imp (pt_cmpR ho ha hb hm) fun σ H Q ⟨μ, l, st, hs, hl, h⟩ => by
    have h' : tTest (tE Γ Wx (eBin op ea eb)) σ H Q := tTest_run σ H Q ⟨μ, l, st, hs, hl, h⟩
    exact tOp_run hop σ H _ h'
def eChain (op op' : W → W → Sto → Res W) (a b c : Ev) : Ev := fun l st => (a l st).bind fun x st1 => (b l st1).bind fun y st2 => (op x y st2).bind fun z st3 => match z with
  | .bl k => if k = true then (c l st3).bind fun w st4 => op' y w st4 else .ok (.bl false) st3
  | _ => .err
theorem tChain_run {c : Expr} {ec : Ev} {r r' : R2} {op op' : W → W → Sto → Res W} (hop : OpOk Γ r op) (hop' : OpOk Γ r' op') (σ : L2.St) (H : Hp) (Q : VK) (h : tE Γ Wx (eChain op op' ea eb ec) σ H Q) : tChain r r' (tE Γ Wx ea) (tE Γ Wx eb) (tE Γ Wx ec) σ H Q := by
  obtain ⟨μ, l, st, hs, hl, h⟩ := h
  refine tG_bind hs hl h _ fun w st1 μ1 H1 v e1 s1 r1 h1 => tG_bind s1 (hl.mono e1) h1 _ fun w2 st2 μ2 H2 v2 e2 s2 r2 h2 => ?_
  refine hop Wx μ2 σ H2 st2 w w2 v v2 _ s2 (r1.mono e2) r2 ?_
  cases e : op w w2 st2 with
  | err => rw [e] at h2; exact h2
  | exc c p st3 => rw [e] at h2; exact h2
  | ok z st3 =>
    rw [e] at h2
    intro μ3 H3 vz e3 s3 r3
    have h3 := Post.mono h2 e3
    dsimp only [Res.bind] at h3
    split at h3
    · rename_i k
      cases r3
      refine ⟨k, rfl, ?_⟩
      split
      · rename_i hk
        rw [if_pos hk] at h3
        exact tG_bind s3 (hl.mono (e1.trans (e2.trans e3))) h3 _ fun w4 st4 μ4 H4 v4 e4 s4 r4 h4 => hop' Wx μ4 σ H4 st4 w2 w4 v2 v4 Q s4 (r2.mono (e3.trans e4)) r4 h4
      · rename_i hk
        rw [if_neg hk] at h3
        exact h3.here s3 (.bl false)
    · exact h3.elim
theorem qe_chain {c : Expr} {ec : Ev} {o o' : CmpOp} {r r' : R2} {op op' : W → W → Sto → Res W} {pos : Pos} (ho : OpR X (compareOp o) r) (hop : OpOk Γ r op) (ho' : OpR X (compareOp o') r') (hop' : OpOk Γ r' op') (ha : PE X a (tE Γ Wx ea)) (hb : PE X b (tE Γ Wx eb))
    (hc : PE X c (tE Γ Wx ec)) (hm : lastMarks [o, o'] [b, c] = false := by rfl) : PE X (.Compare a [o, o'] [b, c] pos) (tE Γ Wx (eChain op op' ea eb ec)) :=
  PE_imp (pe_chain ho ho' ha hb hc hm) fun σ H Q h => tChain_run (c := c) hop hop' σ H Q h
theorem getL_rep {μ : List Addr} {st : Sto} {H : Hp} {n : Nat} {ws : List W} {v : V} (hs : Sim Γ μ st H) (h : getL st n = some ws) (r : Rep Γ.K μ H (.ref n) v) : ∃ a xs, v = .ref a ∧ SqL Γ.K H a xs ∧ Reps Γ.K μ H ws xs := by
  cases r with
  | ref hm =>
    unfold getL at h
    split at h
    · rename_i ws' e
      cases h
      obtain ⟨xs, h1, h2⟩ := hs.cell n _ _ e hm
      exact ⟨_, xs, rfl, .inl (.inl h1), h2⟩
    · rename_i ws' e
      cases h
      obtain ⟨xs, h1, h2⟩ := hs.cell n _ _ e hm
      refine ⟨_, xs, rfl, ?_, h2⟩
      rcases h1 with h1 | ⟨o, h1⟩
      · exact .inr h1
      · exact .inl (.inr ⟨o, h1⟩)
    · cases h
theorem isEmpty_reps {μ : List Addr} {H : Hp} {K : PySem.W.Frag} : ∀ {ws : List W} {xs : List V}, Reps K μ H ws xs → xs.isEmpty = ws.isEmpty
  | _, _, .nil => rfl
  | _, _, .cons _ _ => rfl
theorem truth_rep {μ : List Addr} {st : Sto} {H : Hp} {w : W} {v : V} {c : Bool} (hs : Sim Γ μ st H) (h : truth st w = some c) (r : Rep Γ.K μ H w v) : TruV Γ.K v H c := by
  cases w with
  | non => cases r; cases h; rfl
  | bl b => cases r; cases h; rfl
  | int i => cases r; cases h; rfl
  | str x =>
    cases r
    simp only [truth] at h
    by_cases q : x.length ≤ sizeLine
    · rw [if_pos q] at h
      exact ⟨q, (Option.some.inj h).symm⟩
    · rw [if_neg q] at h; cases h
  | tup ws =>
    cases r with
    | tup h1 h2 => cases h; exact .inr (.inl ⟨_, h1, by rw [isEmpty_reps h2]⟩)
  | ref n =>
    simp only [truth] at h
    cases e : getL st n with
    | none => rw [e] at h; cases h
    | some ws =>
      rw [e] at h
      cases h
      obtain ⟨a, xs, rfl, h1, h2⟩ := getL_rep hs e r
      exact .inl ⟨xs, h1, by rw [isEmpty_reps h2]⟩
theorem qt_tru (hK : X.K = Γ.K) (ha : PE X a (tE Γ Wx ea)) (he : ∀ whole, isTrue a X.env whole = (do let v ← whole; standAt a.pos; holding [v] (truthy v)) := by intro _; rfl) : PT X a (tT Γ Wx (bTru ea)) :=
  PT_imp (pt_truth ha he) fun σ H Q ⟨μ, l, st, hs, hl, h⟩ => tG_bind hs hl h _ fun w st1 μ1 H1 v e1 s1 r1 h1 => by
    split at h1
    · rename_i c hc
      exact ⟨c, by rw [hK]; exact truth_rep s1 hc r1, h1.here s1 rfl⟩
    · exact h1.elim
theorem qt_not {ba : Bv} {pos : Pos} (ha : PT X a (tT Γ Wx ba)) : PT X (.UnaryOp .Not a pos) (tT Γ Wx (bNot ba)) :=
  PT_imp (pt_not ha) fun σ H Q ⟨μ, l, st, hs, hl, h⟩ => tG_bind hs hl h _ fun w st1 μ1 H1 v e1 s1 r1 h1 => by subst r1; exact h1.here s1 rfl
theorem qw_and1 {ba : Bv} {pos : Pos} (ha : PT X a (tT Γ Wx ba)) : PW X (.BoolOp .And [a] pos) (tT Γ Wx ba) := pw_and1 ha
theorem qw_or1 {ba : Bv} {pos : Pos} (ha : PT X a (tT Γ Wx ba)) : PW X (.BoolOp .Or [a] pos) (tT Γ Wx ba) := pw_or1 ha
theorem qw_pt {ba : Bv} {e : Expr} (h : PW X e (tT Γ Wx ba)) : PT X e (tT Γ Wx ba) := h.pt
theorem qw_and {ba bb : Bv} {rest : List Expr} {pos : Pos} (ha : PT X a (tT Γ Wx ba)) (hb : PW X (.BoolOp .And (b :: rest) pos) (tT Γ Wx bb)) : PW X (.BoolOp .And (a :: b :: rest) pos) (tT Γ Wx (bAnd ba bb)) :=
  PW_imp (pw_and ha hb) fun σ H Q ⟨μ, l, st, hs, hl, h⟩ => tG_bind hs hl h _ fun c st1 μ1 H1 v e1 s1 r1 h1 => by
    subst r1
    split
    · rename_i hc
      rw [if_pos hc] at h1
      exact ⟨μ1, l, st1, s1, hl.mono e1, h1⟩
    · rename_i hc
      rw [if_neg hc] at h1
      exact h1.here s1 rfl
theorem qw_or {ba bb : Bv} {rest : List Expr} {pos : Pos} (ha : PT X a (tT Γ Wx ba)) (hb : PW X (.BoolOp .Or (b :: rest) pos) (tT Γ Wx bb)) : PW X (.BoolOp .Or (a :: b :: rest) pos) (tT Γ Wx (bOr ba bb)) :=
  PW_imp (pw_or ha hb) fun σ H Q ⟨μ, l, st, hs, hl, h⟩ => tG_bind hs hl h _ fun c st1 μ1 H1 v e1 s1 r1 h1 => by
    subst r1
    split
    · rename_i hc
      rw [if_pos hc] at h1
      exact h1.here s1 rfl
    · rename_i hc
      rw [if_neg hc] at h1
      exact ⟨μ1, l, st1, s1, hl.mono e1, h1⟩
theorem qe_one {o : BoolOp} {pos : Pos} (ha : PE X a (tE Γ Wx ea)) : PE X (.BoolOp o [a] pos) (tE Γ Wx ea) := pe_one ha
theorem qe_and {rest : List Expr} {pos : Pos} (ha : PE X a (tE Γ Wx ea)) (hb : PE X (.BoolOp .And (b :: rest) pos) (tE Γ Wx eb)) : PE X (.BoolOp .And (a :: b :: rest) pos) (tE Γ Wx (eAnd ea eb)) :=
  PE_imp (pe_and ha hb) fun σ H Q ⟨μ, l, st, hs, hl, h⟩ => tG_bind hs hl h _ fun w st1 μ1 H1 v e1 s1 r1 h1 => by
    split at h1
    · rename_i c
      cases r1
      refine ⟨c, rfl, ?_⟩
      split
      · rename_i hc
        rw [if_pos hc] at h1
        exact ⟨μ1, l, st1, s1, hl.mono e1, h1⟩
      · rename_i hc
        rw [if_neg hc] at h1
        exact h1.here s1 (.bl false)
    · exact h1.elim
theorem qe_not {pos : Pos} (ha : PE X a (tE Γ Wx ea)) : PE X (.UnaryOp .Not a pos) (tE Γ Wx (eNot ea)) :=
  PE_imp (pe_not ha) fun σ H Q ⟨μ, l, st, hs, hl, h⟩ => tG_bind hs hl h _ fun w st1 μ1 H1 v e1 s1 r1 h1 => by
    split at h1
    · rename_i c
      cases r1
      exact ⟨c, rfl, h1.here s1 (.bl _)⟩
    · exact h1.elim
theorem qe_if {c : Expr} {bc : Bv} {pos : Pos} (hc : PT X c (tT Γ Wx bc)) (ha : PE X a (tE Γ Wx ea)) (hb : PE X b (tE Γ Wx eb)) : PE X (.IfExp c a b pos) (tE Γ Wx (eIf bc ea eb)) :=
  PE_imp (pe_ifExp hc ha hb) fun σ H Q ⟨μ, l, st, hs, hl, h⟩ => tG_bind hs hl h _ fun k st1 μ1 H1 v e1 s1 r1 h1 => by
    subst r1
    split
    · rename_i hc
      rw [if_pos hc] at h1
      exact ⟨μ1, l, st1, s1, hl.mono e1, h1⟩
    · rename_i hc
      rw [if_neg hc] at h1
      exact ⟨μ1, l, st1, s1, hl.mono e1, h1⟩
def CallOk (Γ : Gf) (r : List V → Hp → VK → Prop) (F : List W → Sto → Res W) : Prop := ∀ (Wx : WX) μ (σ : L2.St) H st ws xs (Q : VK), Sim Γ μ st H → Reps Γ.K μ H ws xs → Post Γ Wx (Rep Γ.K) μ σ H Q (F ws st) → r xs H Q
theorem tCB_run {r : List V → Hp → VK → Prop} {F : List W → Sto → Res W} (hF : CallOk Γ r F) (σ : L2.St) (H : Hp) (Q : VK) (h : tE Γ Wx (eB F eas) σ H Q) : tCB r (tA Γ Wx eas) σ H Q := by
  obtain ⟨μ, l, st, hs, hl, h⟩ := h
  exact tG_bind hs hl h _ fun ws st1 μ1 H1 xs e1 s1 r1 h1 => hF Wx μ1 σ H1 st1 ws xs Q s1 r1 h1
end
end RB
namespace RB
open PySem PySem.Spec PyProof.Rows L2
def PostS (Γ : Gf) (Wx : WX) (μ : List Addr) (H : Hp) (D : Ends) : RS → Prop
  | .nx l st => ∀ μ' H' σ', Ext Γ.K μ μ' H H' → Sim Γ μ' st H' → LRep Γ.K μ' H' l σ' → D.nx σ' H'
  | .rt w st => ∀ μ' H' v, Ext Γ.K μ μ' H H' → Sim Γ μ' st H' → Rep Γ.K μ' H' w v → D.rt v H'
  | .bk l st => ∀ μ' H' σ', Ext Γ.K μ μ' H H' → Sim Γ μ' st H' → LRep Γ.K μ' H' l σ' → D.bk σ' H'
  | .ct l st => ∀ μ' H' σ', Ext Γ.K μ μ' H H' → Sim Γ μ' st H' → LRep Γ.K μ' H' l σ' → D.ct σ' H'
  | .exc c p l st => ∀ μ' H' σ' d v, Ext Γ.K μ μ' H H' → Sim Γ μ' st H' → LRep Γ.K μ' H' l σ' → Rep Γ.K μ' H' p v → H' d = some (.xd [(Γ.fld c, v)]) → Wx (.ref (Γ.ec c)) (some d) σ' H'
  | .err => False
def tS (Γ : Gf) (Wx : WX) (s : Sx) : TS := fun D σ H => ∃ μ l st, Sim Γ μ st H ∧ LRep Γ.K μ H l σ ∧ PostS Γ Wx μ H D (s l st)
def xs {α : Type} (r : Res α) (l : Lo) (k : α → Sto → RS) : RS := match r with | .ok a st => k a st | .exc c p st => .exc c p l st | .err => .err
abbrev Tg := W → Lo → Sto → Option Lo
abbrev Tgs := List W → Lo → Sto → Option Lo
def tgName (i : Nat) : Tg := fun w l _ => some (l.set i (some w))
def tgNil : Tgs := fun ws l _ => match ws with | [] => some l | _ => none
def tgCons (a : Tg) (b : Tgs) : Tgs := fun ws l st => match ws with | w :: r => (a w l st).bind fun l1 => b r l1 st | [] => none
def tgTup (n : Nat) (t : Tgs) : Tg := fun w l st => match w with
  | .tup ws => if ws.length = n then t ws l st else none
  | .ref k => match getL st k with | some ws => if ws.length = n then t ws l st else none | none => none
  | _ => none
inductive Src where
  | fix (ws : List W) | live (n : Nat) | enum (s : Src) | zip (a b : Src) | zip3 (a b c : Src)
def Src.at (st : Sto) (i : Nat) : Src → Option (Option W)
  | .fix ws => some ws[i]?
  | .live n => (getL st n).map (·[i]?)
  | .enum s => (Src.at st i s).map fun o => o.map fun w => .tup [.int (i : Nat), w]
  | .zip a b => (Src.at st i a).bind fun x => (Src.at st i b).bind fun y => match x, y with | some x, some y => some (some (.tup [x, y])) | _, _ => some none
  | .zip3 a b c => (Src.at st i a).bind fun x => (Src.at st i b).bind fun y => (Src.at st i c).bind fun z => match x, y, z with | some x, some y, some z => some (some (.tup [x, y, z])) | _, _, _ => some none
def loopF (s : Src) (tg : Tg) (body : Sx) : Nat → Nat → Lo → Sto → RS
  | 0, _, _, _ => .err
  | f + 1, i, l, st => match s.at st i with
    | none => .err
    | some none => .nx l st
    | some (some w) => match tg w l st with
      | none => .err
      | some l1 => match body l1 st with
        | .nx l2 st2 => loopF s tg body f (i + 1) l2 st2
        | .ct l2 st2 => loopF s tg body f (i + 1) l2 st2
        | .bk l2 st2 => .nx l2 st2
        | r => r
def sNil : Sx := fun l st => .nx l st
def sSeq (a b : Sx) : Sx := fun l st => match a l st with | .nx l1 st1 => b l1 st1 | r => r
def sSet (tg : Tg) (e : Ev) : Sx := fun l st => xs (e l st) l fun w st1 => match tg w l st1 with | some l1 => .nx l1 st1 | none => .err
def sDrop (e : Ev) : Sx := fun l st => xs (e l st) l fun _ st1 => .nx l st1
def sRet (e : Ev) : Sx := fun l st => xs (e l st) l fun w st1 => .rt w st1
def sRetN : Sx := fun _ st => .rt .non st
def sIf (c : Bv) (a b : Sx) : Sx := fun l st => xs (c l st) l fun k st1 => if k = true then a l st1 else b l st1
def sBreak : Sx := fun l st => .bk l st
def sCont : Sx := fun l st => .ct l st
def sFor (n : Nat) (src : Lo → Sto → Res Src) (tg : Tg) (body : Sx) : Sx := fun l st => xs (src l st) l fun s st1 => loopF s tg body n 0 l st1
section
variable {Γ : Gf} {Wx : WX} {μ μ' : List Addr} {σ : L2.St} {H H' : Hp} {l : Lo} {st : Sto}
theorem PostS.mono {D : Ends} {r : RS} (h : PostS Γ Wx μ H D r) (e : Ext Γ.K μ μ' H H') : PostS Γ Wx μ' H' D r := by
  cases r with
  | nx l st => exact fun a b c e2 => h a b c (e.trans e2)
  | rt w st => exact fun a b c e2 => h a b c (e.trans e2)
  | bk l st => exact fun a b c e2 => h a b c (e.trans e2)
  | ct l st => exact fun a b c e2 => h a b c (e.trans e2)
  | exc c p l st => exact fun a b c d v e2 => h a b c d v (e.trans e2)
  | err => exact h
theorem PostS.here {D : Ends} (h : PostS Γ Wx μ H D (.nx l st)) (hs : Sim Γ μ st H) (hl : LRep Γ.K μ H l σ) : D.nx σ H := h μ H σ .refl hs hl
theorem tG_bindS {α β : Type} {R : RR α β} {f : Lo → Sto → Res α} {k : α → Sto → RS} {D : Ends} (hs : Sim Γ μ st H) (hl : LRep Γ.K μ H l σ) (h : PostS Γ Wx μ H D (xs (f l st) l k)) (S : β → Hp → Prop)
    (hS : ∀ a st1 μ1 H1 b, Ext Γ.K μ μ1 H H1 → Sim Γ μ1 st1 H1 → R μ1 H1 a b → PostS Γ Wx μ1 H1 D (k a st1) → S b H1) : tG Γ Wx R f σ H S := by
  refine ⟨μ, l, st, hs, hl, ?_⟩
  cases e : f l st with
  | ok a st1 =>
    rw [e] at h
    exact fun μ1 H1 b e1 s1 r1 => hS a st1 μ1 H1 b e1 s1 r1 (PostS.mono (show PostS Γ Wx μ H D (k a st1) from h) e1)
  | exc c p st1 =>
    rw [e] at h
    exact fun μ1 H1 d v e1 s1 r1 q1 => h μ1 H1 σ d v e1 s1 (hl.mono e1) r1 q1
  | err => rw [e] at h; exact h
def gT (Γ : Gf) (tg : Tg) : TG := fun v σ H Q => ∃ μ l st w l', Sim Γ μ st H ∧ LRep Γ.K μ H l σ ∧ Rep Γ.K μ H w v ∧ tg w l st = some l' ∧ ∀ σ', LRep Γ.K μ H l' σ' → Q σ' H
def gTs (Γ : Gf) (tg : Tgs) : TGs := fun v σ H Q => ∃ μ l st w l', Sim Γ μ st H ∧ LRep Γ.K μ H l σ ∧ Reps Γ.K μ H w v ∧ tg w l st = some l' ∧ ∀ σ', LRep Γ.K μ H l' σ' → Q σ' H
end
section
variable {X : Cx} {Γ : Gf} {Wx : WX} {e a b : Expr} {es : List Expr} {ea eb : Ev} {eas : Evs}
theorem PG_imp {t t' : TG} (h : PG X e t) (k : ∀ v σ H Q, t' v σ H Q → t v σ H Q) : PG X e t' := ⟨fun pins s σ H v u Q I r q => h.run pins s σ H v u Q I r (k _ _ _ _ q)⟩
theorem PG_or {t t' : TG} (h : PG X e t) (h' : PG X e t') : PG X e (fun v σ H Q => t v σ H Q ∨ t' v σ H Q) := ⟨fun pins s σ H v u Q I r q => q.elim (h.run pins s σ H v u Q I r) (h'.run pins s σ H v u Q I r)⟩
theorem PGs_imp {t t' : TGs} (h : PGs X es t) (k : ∀ v σ H Q, t' v σ H Q → t v σ H Q) : PGs X es t' := ⟨fun pins s σ H v u Q I r q => h.run pins s σ H v u Q I r (k _ _ _ _ q)⟩
theorem qg_name {i : Nat} {x : Str} {pos : Pos} (hN : X.N.Nodup) (hi : X.N[i]? = some x) (hx : L2.Loc X.env.scope x) (hf : X.fn x = true ∨ X.env.scope.names.lookup x = some .local := by first | exact .inl rfl | exact .inr rfl | assumption) : PG X (.Name x pos) (gT Γ (tgName i)) :=
  PG_imp (pg_name hN hi hx hf) fun v σ H Q ⟨μ, l, st, w, l', hs, hl, hr, h1, h2⟩ => by
    cases h1
    exact h2 _ (hl.set hr i)
theorem qg_nil : PGs X [] (gTs Γ tgNil) := PGs_imp pgs_nil fun v σ H Q ⟨μ, l, st, w, l', hs, hl, hr, h1, h2⟩ => by
  cases hr with
  | nil => cases h1; exact ⟨rfl, h2 _ hl⟩
  | cons _ _ => cases h1
theorem qg_cons {ta : Tg} {tb : Tgs} (ha : PG X e (gT Γ ta)) (hb : PGs X es (gTs Γ tb)) (he : (assignEach (e :: es) X.env).map (·.2) = assign e X.env :: (assignEach es X.env).map (·.2) := by rfl) : PGs X (e :: es) (gTs Γ (tgCons ta tb)) :=
  PGs_imp (pgs_cons ha hb he) fun v σ H Q ⟨μ, l, st, w, l', hs, hl, hr, h1, h2⟩ => by
    cases hr with
    | nil => cases h1
    | @cons w1 v1 ws vs r1 r2 =>
      have h1 : (ta w1 l st).bind (fun l1 => tb ws l1 st) = some l' := h1
      cases e1 : ta w1 l st with
      | none => rw [e1] at h1; cases h1
      | some l1 =>
        rw [e1] at h1
        exact ⟨_, _, rfl, μ, l, st, w1, l1, hs, hl, r1, e1, fun σ1 hl1 => ⟨μ, l1, st, ws, l', hs, hl1, r2, h1, h2⟩⟩
theorem qg_tup {k n : Nat} {t : Tgs} {pos : Pos} (hK : X.K = Γ.K) (hc : X.calm = true) (h : PGs X es (gTs Γ t)) (hn : (assignEach es X.env).length = n := by rfl) (hst : (assignEach es X.env).findIdx? (·.1) = none := by rfl) : PG X (.Tuple es k pos) (gT Γ (tgTup n t)) :=
  PG_imp (PG_or (pg_tup (k := k) (pos := pos) hc h hn hst) (pg_lst (k := k) (pos := pos) hc h hn hst)) fun v σ H Q ⟨μ, l, st, w, l', hs, hl, hr, h1, h2⟩ => by
    rw [hK]
    cases w with
    | tup ws =>
      cases hr with
      | tup q1 q2 =>
        simp only [tgTup] at h1
        split at h1
        · rename_i hlen
          exact .inl ⟨_, _, rfl, q1, by rw [← q2.length]; exact hlen, μ, l, st, ws, l', hs, hl, q2, h1, h2⟩
        · cases h1
    | ref k =>
      simp only [tgTup] at h1
      cases e1 : getL st k with
      | none => rw [e1] at h1; cases h1
      | some ws =>
        rw [e1] at h1
        obtain ⟨a, xs, rfl, q1, q2⟩ := getL_rep hs e1 hr
        dsimp only at h1
        split at h1
        · rename_i hlen
          exact .inr ⟨_, _, rfl, q1, by rw [← q2.length]; exact hlen, μ, l, st, ws, l', hs, hl, q2, h1, h2⟩
        · cases h1
    | _ => cases h1
theorem qs_nil : PSs X [] (tS Γ Wx sNil) := PSs_imp pss_nil fun D σ H ⟨μ, l, st, hs, hl, h⟩ => h.here hs hl
theorem qs_break {pos : Pos} : PS X (.Break pos) (tS Γ Wx sBreak) := PS_imp ps_break fun D σ H ⟨μ, l, st, hs, hl, h⟩ => h μ H σ .refl hs hl
theorem qs_cons {s : Stmt} {rest : List Stmt} {x y : Sx} (ha : PS X s (tS Γ Wx x)) (hb : PSs X rest (tS Γ Wx y)) : PSs X (s :: rest) (tS Γ Wx (sSeq x y)) :=
  PSs_imp (pss_cons ha hb) fun D σ H ⟨μ, l, st, hs, hl, h⟩ => by
    refine ⟨μ, l, st, hs, hl, ?_⟩
    unfold sSeq at h
    cases e : x l st with
    | nx l1 st1 =>
      rw [e] at h
      exact fun μ1 H1 σ1 e1 s1 l1' => ⟨μ1, l1, st1, s1, l1', PostS.mono h e1⟩
    | rt w st1 => rw [e] at h; exact h
    | bk l1 st1 => rw [e] at h; exact h
    | ct l1 st1 => rw [e] at h; exact h
    | exc c p l1 st1 => rw [e] at h; exact h
    | err => rw [e] at h; exact h
theorem qs_one {s : Stmt} {x : Sx} (ha : PS X s (tS Γ Wx x)) : PSs X [s] (tS Γ Wx x) := pss_one ha
theorem qs_set {tg : Expr} {t : Tg} {pos : Pos} (he : PE X e (tE Γ Wx ea)) (hg : PG X tg (gT Γ t)) (hs : swapsWithSole [tg] e pos.line X.env = pure false := by rfl) (hw : swappedStores [tg] e X.env = pure none := by rfl)
    (h1 : (assignEach [tg] X.env).map (·.2) = [assign tg X.env] := by rfl) : PS X (.Assign [tg] e pos) (tS Γ Wx (sSet t ea)) :=
  PS_imp (ps_asg he hg hs hw h1) fun D σ H ⟨μ, l, st, hs, hl, h⟩ => tG_bindS hs hl h _ fun w st1 μ1 H1 v e1 s1 r1 h1 => by
    split at h1
    · rename_i l1 hl1
      exact ⟨μ1, l, st1, w, l1, s1, hl.mono e1, r1, hl1, fun σ' q => h1.here s1 q⟩
    · exact h1.elim
theorem qs_drop {pos : Pos} (he : PE X e (tE Γ Wx ea)) (hs : swapsWith e none pos.line X.env = pure false := by rfl) : PS X (.Expr e pos) (tS Γ Wx (sDrop ea)) :=
  PS_imp (ps_expr he hs) fun D σ H ⟨μ, l, st, hs, hl, h⟩ => tG_bindS hs hl h _ fun w st1 μ1 H1 v e1 s1 r1 h1 => h1.here s1 (hl.mono e1)
theorem qs_ret {pos : Pos} (he : PE X e (tE Γ Wx ea)) : PS X (.Return (some e) pos) (tS Γ Wx (sRet ea)) :=
  PS_imp (ps_ret he) fun D σ H ⟨μ, l, st, hs, hl, h⟩ => tG_bindS hs hl h _ fun w st1 μ1 H1 v e1 s1 r1 h1 => h1 _ _ _ .refl s1 r1
theorem qs_if {c : Expr} {p q : List Stmt} {bc : Bv} {x y : Sx} {pos : Pos} (hc : PT X c (tT Γ Wx bc)) (ha : PSs X p (tS Γ Wx x)) (hb : PSs X q (tS Γ Wx y)) : PS X (.If c p q pos) (tS Γ Wx (sIf bc x y)) :=
  PS_imp (ps_if hc ha hb) fun D σ H ⟨μ, l, st, hs, hl, h⟩ => tG_bindS hs hl h _ fun w st1 μ1 H1 v e1 s1 r1 h1 => by
    subst r1
    split
    · rename_i hw
      rw [if_pos hw] at h1
      exact ⟨μ1, l, st1, s1, hl.mono e1, h1⟩
    · rename_i hw
      rw [if_neg hw] at h1
      exact ⟨μ1, l, st1, s1, hl.mono e1, h1⟩
def ItOk (Γ : Gf) (J : It) (s : Src) (μ : List Addr) (H : Hp) : Prop := ∀ μ' H' st', Ext Γ.K μ μ' H H' → Sim Γ μ' st' H' → ∀ i, (∀ w, s.at st' i = some (some w) → J.go i H' ∧ ∀ x H'', J.yld i H' x H'' → Ext Γ.K μ' μ' H' H'' ∧ Sim Γ μ' st' H'' ∧ Rep Γ.K μ' H'' w x) ∧ (s.at st' i = some none → J.stop i H')
def tI (Γ : Gf) (Wx : WX) (src : Lo → Sto → Res Src) : TI := fun σ H R => ∃ μ l st, Sim Γ μ st H ∧ LRep Γ.K μ H l σ ∧ match src l st with
  | .ok s st' => ∀ μ' H' J, Ext Γ.K μ μ' H H' → Sim Γ μ' st' H' → ItOk Γ J s μ' H' → R J H'
  | .exc c p st' => ∀ μ' H' d v, Ext Γ.K μ μ' H H' → Sim Γ μ' st' H' → Rep Γ.K μ' H' p v → H' d = some (.xd [(Γ.fld c, v)]) → Wx (.ref (Γ.ec c)) (some d) σ H'
  | .err => False
theorem PI_imp {tg iter : Expr} {t t' : TI} (h : PI X tg iter t) (k : ∀ σ H R, t' σ H R → t σ H R) : PI X tg iter t' := ⟨fun pins s σ H R I q => h.run pins s σ H R I (k _ _ _ q)⟩
theorem PI_or {tg iter : Expr} {t t' : TI} (h : PI X tg iter t) (h' : PI X tg iter t') : PI X tg iter (fun σ H R => t σ H R ∨ t' σ H R) := ⟨fun pins s σ H R I q => q.elim (h.run pins s σ H R I) (h'.run pins s σ H R I)⟩
theorem ItOk.mono {J : It} {s : Src} {μ μ' : List Addr} {H H' : Hp} (h : ItOk Γ J s μ H) (e : Ext Γ.K μ μ' H H') : ItOk Γ J s μ' H' := fun a b c e2 => h a b c (e.trans e2)
theorem qs_for {tg iter : Expr} {body : List Stmt} {n : Nat} {src : Lo → Sto → Res Src} {t : Tg} {x : Sx} {pos : Pos} (hp : PassesOwn (model X.prog X.w) X.A X.env X.xe) (hc : X.calm = true) (hi : PI X tg iter (tI Γ Wx src)) (hg : PG X tg (gT Γ t)) (hb : PSs X body (tS Γ Wx x)) (hs : ∀ x, foldedSetIterable iter X.env x = pure x := by intro _; rfl) :
    PS X (.For tg iter body [] pos) (tS Γ Wx (sFor n src t x)) :=
  PS_imp (ps_for hp hc hi hg hb hs) fun D σ H ⟨μ, l, st, hs, hl, h⟩ => by
    refine ⟨μ, l, st, hs, hl, ?_⟩
    unfold sFor at h
    cases e : src l st with
    | err => rw [e] at h; exact h
    | exc c p st1 =>
      rw [e] at h
      exact fun μ1 H1 d v e1 s1 r1 q1 => h μ1 H1 σ d v e1 s1 (hl.mono e1) r1 q1
    | ok s st1 =>
      rw [e] at h
      intro μ1 H1 J e1 s1 hJ
      have h1 : PostS Γ Wx μ1 H1 D (loopF s t x n 0 l st1) := PostS.mono h e1
      refine ⟨fun i m σ' H' => ∃ μ' l' st', Ext Γ.K μ1 μ' H1 H' ∧ Sim Γ μ' st' H' ∧ LRep Γ.K μ' H' l' σ' ∧ PostS Γ Wx μ' H' D (loopF s t x m i l' st'), ⟨n, μ1, l, st1, .refl, s1, hl.mono e1, h1⟩, ?_⟩
      rintro i m σ' H' ⟨μ2, l2, st2, e2, s2, lr2, h2⟩
      obtain ⟨go, stop⟩ := hJ μ2 H' st2 e2 s2 i
      cases m with
      | zero => exact h2.elim
      | succ m =>
        unfold loopF at h2
        cases ea : s.at st2 i with
        | none => rw [ea] at h2; exact h2.elim
        | some o =>
          cases o with
          | none =>
            rw [ea] at h2
            exact .inl ⟨stop ea, h2.here s2 lr2⟩
          | some w =>
            rw [ea] at h2
            obtain ⟨go1, go2⟩ := go w ea
            refine .inr ⟨go1, fun σ3 H3 => ∃ μ' l' st', Ext Γ.K μ1 μ' H1 H3 ∧ Sim Γ μ' st' H3 ∧ LRep Γ.K μ' H3 l' σ3 ∧ PostS Γ Wx μ' H3 D (loopF s t x m (i + 1) l' st'), fun σ3 H3 q => ⟨m, Nat.lt_succ_self _, q⟩, fun v H3 hy => ?_⟩
            obtain ⟨y1, y2, y3⟩ := go2 v H3 hy
            dsimp only at h2
            cases et : t w l2 st2 with
            | none => rw [et] at h2; exact h2.elim
            | some l3 =>
              rw [et] at h2
              refine ⟨μ2, l2, st2, w, l3, y2, lr2.mono y1, y3, et, fun σ4 lr4 => ⟨μ2, l3, st2, y2, lr4, ?_⟩⟩
              dsimp only at h2
              have e3 := e2.trans y1
              have h2 := PostS.mono h2 y1
              cases eb : x l3 st2 with
              | nx l5 st5 => rw [eb] at h2; exact fun μ6 H6 σ6 e6 s6 lr6 => ⟨μ6, l5, st5, e3.trans e6, s6, lr6, PostS.mono h2 e6⟩
              | ct l5 st5 => rw [eb] at h2; exact fun μ6 H6 σ6 e6 s6 lr6 => ⟨μ6, l5, st5, e3.trans e6, s6, lr6, PostS.mono h2 e6⟩
              | bk l5 st5 => rw [eb] at h2; exact h2
              | rt w5 st5 => rw [eb] at h2; exact h2
              | exc c5 p5 l5 st5 => rw [eb] at h2; exact h2
              | err => rw [eb] at h2; exact h2
def defn (n : Nat) (body : Sx) : List W → Sto → Res W := fun ws st => match body (ws.map some ++ List.replicate (n - ws.length) none) ⟨st.c, none⟩ with
  | .nx _ st' => reM st.d (trim st.c.length .non st')
  | .rt w st' => reM st.d (trim st.c.length w st')
  | .exc c p _ st' => reM st.d (if (st'.may st.c.length && W.pure p) = true then .exc c p (st'.cut st.c.length) else .exc c p st')
  | _ => .err
theorem mark_defn (n : Nat) (body : Sx) : Mark (defn n body) := fun ws st => by
  unfold defn
  dsimp only
  generalize body (ws.map some ++ List.replicate (n - ws.length) none) ⟨st.c, none⟩ = r
  cases r <;> first | rfl | (simp only [reM_none])
def spF (Γ : Gm) (np : Nat) (F : List W → Sto → Res W) : Sp := fun vs H Q E => ∃ μ c ws q, Sim ⟨Γ, c.length, q⟩ μ ⟨c, none⟩ H ∧ Reps Γ.K μ H ws vs ∧ ws.length = np ∧ Post ⟨Γ, c.length, q⟩ (fun cls d _ H => E cls d H) (Rep Γ.K) μ [] H Q (F ws ⟨c, none⟩)
theorem spF_len {Γ : Gm} {np : Nat} {F : List W → Sto → Res W} {vs : List V} {H : Hp} {Q : VK} {E : XK} (h : spF Γ np F vs H Q E) : vs.length = np := by
  obtain ⟨μ, c, ws, q, hs, hr, hl, _⟩ := h
  rw [← hr.length, hl]
theorem Sim.cutPush {Γ : Gf} {μ : List Addr} {st : Sto} {H : Hp} {n k : Nat} {a : Addr} {ws : List W} (s : Sim Γ μ st H) (h : st.may n = true) (hb : Γ.b ≤ n) (hnk : n ≤ k) (hk : st.c[k]? = some (.lst ws)) (hp : W.pures ws = true) (ha : μ[k]? = some a) :
    Sim Γ (μ.take n ++ [a]) ((st.cut n).push (.lst ws)) H := by
  have s0 := s.cut h hb
  have kl := (List.getElem?_eq_some_iff.mp hk).1
  have ml := s.len
  have sl : (st.cut n).c.length = n := by simp [Sto.cut]; omega
  have tl : (μ.take n).length = n := by simp; omega
  refine ⟨by simp [Sto.push, sl, tl], fun i j b c d h1 h2 o1 o2 m1 m2 => ?_, fun i c b h1 m1 => ?_, fun i c h1 _ => ?_, by simp [Sto.push, sl]; omega, s.ql, s.qg⟩
  · have key : ∀ (i : Nat) c, (st.cut n).c[i]? = some c → c.own = true → (μ.take n ++ [a])[i]? = some a → False := fun i c h1 o1 m1 => by
      obtain ⟨h1, hi⟩ := getTake h1
      rw [List.getElem?_append_left (by omega)] at m1
      have := s.inj i k a c _ h1 hk o1 rfl (getTake m1).1 ha
      omega
    have at_ : ∀ b, (μ.take n ++ [a])[n]? = some b → b = a := fun b q => by
      rw [List.getElem?_append_right (by omega)] at q
      simp [tl] at q
      exact q.symm
    rcases get_snoc h1 with h1 | ⟨e1, z1⟩
    · rcases get_snoc h2 with h2 | ⟨e2, z2⟩
      · have hi := (getTake h1).2
        have hj := (getTake h2).2
        rw [List.getElem?_append_left (by omega)] at m1 m2
        exact s0.inj i j b c d h1 h2 o1 o2 m1 m2
      · rw [e2, sl] at m2
        have := at_ _ m2
        subst this
        exact (key i c h1 o1 m1).elim
    · rcases get_snoc h2 with h2 | ⟨e2, z2⟩
      · rw [e1, sl] at m1
        have := at_ _ m1
        subst this
        exact (key j d h2 o2 m2).elim
      · omega
  · rcases get_snoc h1 with h1 | ⟨e1, z1⟩
    · have hi := (getTake h1).2
      rw [List.getElem?_append_left (by omega)] at m1
      have q := s0.cell i c b h1 m1
      exact CellOk.ext q ⟨fun j x y => by
        have := (List.getElem?_eq_some_iff.mp y).1
        rw [List.getElem?_append_left this]; exact y, fun _ _ h => h⟩
    · subst z1
      rw [e1, sl, List.getElem?_append_right (by omega)] at m1
      simp [tl] at m1
      subst m1
      obtain ⟨xs, q1, q2⟩ := s.cell k _ _ hk ha
      exact ⟨xs, q1, Reps.pure hp q2⟩
  · rcases get_snoc h1 with h1 | ⟨e1, z1⟩
    · exact s0.back i c h1 (fun k z => by cases z)
    · subst z1
      exact W.pures_low hp
theorem Sim.reloc {Γ : Gf} {μ : List Addr} {st : Sto} {H : Hp} {n : Nat} {ks : List Nat} (s : Sim Γ μ st H) (h : st.may n = true) (hb : Γ.b ≤ n) (hn : n ≤ st.c.length) (g : ReloOk st n ks) :
    Sim Γ (μ.take n ++ ks.map fun k => μ.getD k 0) ⟨st.c.take n ++ ks.map fun k => st.c.getD k (.lst []), none⟩ H := by
  have s0 := s.cut h hb
  have ml := s.len
  have tl : (μ.take n).length = n := by simp; omega
  have sl : (st.c.take n).length = n := by simp; omega
  have at0 : ∀ (i : Nat) c, (st.c.take n ++ ks.map fun k => st.c.getD k (.lst []))[i]? = some c → (i < n ∧ st.c[i]? = some c) ∨ (∃ q k us, i = n + q ∧ ks[q]? = some k ∧ n ≤ k ∧ st.c[k]? = some c ∧ c = .lst us ∧ W.pures us = true) := fun i c hi => by
    by_cases hl : i < n
    · rw [List.getElem?_append_left (by omega)] at hi
      exact .inl ⟨hl, (getTake hi).1⟩
    · rw [List.getElem?_append_right (by omega), sl, List.getElem?_map] at hi
      cases e : ks[i - n]? with
      | none => rw [e] at hi; cases hi
      | some k =>
        rw [e] at hi
        obtain ⟨h1, us, h2, h3⟩ := g.at' k (List.mem_of_getElem? e)
        have : st.c.getD k (.lst []) = .lst us := by rw [List.getD_eq_getElem?_getD, h2]; rfl
        have hi : some (st.c.getD k (.lst [])) = some c := hi
        rw [this] at hi
        cases hi
        exact .inr ⟨i - n, k, us, by omega, e, h1, h2, rfl, h3⟩
  have ad0 : ∀ (i : Nat) a, i < n → (μ.take n ++ ks.map fun k => μ.getD k 0)[i]? = some a → μ[i]? = some a := fun i a hi ha => by
    rw [List.getElem?_append_left (by omega)] at ha
    exact (getTake ha).1
  have ad1 : ∀ (q k : Nat) a, ks[q]? = some k → (μ.take n ++ ks.map fun k => μ.getD k 0)[n + q]? = some a → μ[k]? = some a := fun q k a hq ha => by
    rw [List.getElem?_append_right (by omega), tl, Nat.add_sub_cancel_left, List.getElem?_map, hq] at ha
    obtain ⟨_, us, h2, _⟩ := g.at' k (List.mem_of_getElem? hq)
    have hk := (List.getElem?_eq_some_iff.mp h2).1
    have ha : some (μ.getD k 0) = some a := ha
    rw [List.getD_eq_getElem?_getD, List.getElem?_eq_getElem (by omega)] at ha
    rw [List.getElem?_eq_getElem (by omega)]
    exact ha
  refine ⟨by simp [s.len], fun i j b c d h1 h2 o1 o2 m1 m2 => ?_, fun i c b h1 m1 => ?_, fun i c h1 _ => ?_, by simp; omega, s.ql, s.qg⟩
  · rcases at0 i c h1 with ⟨p1, p2⟩ | ⟨q, k, us, rfl, p2, p3, p4, p5, p6⟩
    · rcases at0 j d h2 with ⟨r1, r2⟩ | ⟨q', k', us', rfl, r2, r3, r4, r5, r6⟩
      · exact s.inj i j b c d p2 r2 o1 o2 (ad0 i b p1 m1) (ad0 j b r1 m2)
      · have := s.inj i k' b c d p2 r4 o1 o2 (ad0 i b p1 m1) (ad1 q' k' b r2 m2)
        omega
    · rcases at0 j d h2 with ⟨r1, r2⟩ | ⟨q', k', us', rfl, r2, r3, r4, r5, r6⟩
      · have := s.inj k j b c d p4 r2 o1 o2 (ad1 q k b p2 m1) (ad0 j b r1 m2)
        omega
      · have e := s.inj k k' b c d p4 r4 o1 o2 (ad1 q k b p2 m1) (ad1 q' k' b r2 m2)
        subst e
        obtain ⟨hq, e1⟩ := List.getElem?_eq_some_iff.mp p2
        obtain ⟨hq', e2⟩ := List.getElem?_eq_some_iff.mp r2
        have := (List.getElem_inj (i := q) (j := q') g.nd).mp (e1.trans e2.symm)
        omega
  · rcases at0 i c h1 with ⟨p1, p2⟩ | ⟨q, k, us, rfl, p2, p3, p4, rfl, p6⟩
    · have q1 := s0.cell i c b (by show (st.c.take n)[i]? = _; rw [List.getElem?_take_of_lt p1]; exact p2) (by rw [List.getElem?_take_of_lt p1]; exact ad0 i b p1 m1)
      exact CellOk.ext q1 ⟨fun j x y => by
        have := (List.getElem?_eq_some_iff.mp y).1
        rw [List.getElem?_append_left this]; exact y, fun _ _ h => h⟩
    · obtain ⟨xs, q1, q2⟩ := s.cell k _ _ p4 (ad1 q k b p2 m1)
      exact ⟨xs, q1, Reps.pure p6 q2⟩
  · rcases at0 i c h1 with ⟨p1, p2⟩ | ⟨q, k, us, rfl, p2, p3, p4, rfl, p6⟩
    · exact s0.back i c (by show (st.c.take n)[i]? = _; rw [List.getElem?_take_of_lt p1]; exact p2) (fun k z => by cases z)
    · exact W.pures_low p6
theorem Sim.gc {Γ : Gf} {μ : List Addr} {st : Sto} {H : Hp} {n : Nat} {s1 : Gs} (s : Sim Γ μ st H) (h : st.may n = true) (hb : Γ.b ≤ n) (hn : n ≤ st.c.length) (g : GcI st n s1) : Sim Γ (nu μ n s1.1) ⟨st.c.take n ++ s1.2, none⟩ H := by
  have s0 := s.cut h hb
  have ml := s.len
  have tl : (μ.take n).length = n := by simp; omega
  have sl : (st.c.take n).length = n := by simp; omega
  have at0 : ∀ (i : Nat) c, (st.c.take n ++ s1.2)[i]? = some c → (i < n ∧ st.c[i]? = some c) ∨ (∃ q k us us', i = n + q ∧ s1.1[q]? = some k ∧ n ≤ k ∧ st.c[k]? = some (.lst us) ∧ c = .lst us' ∧ W.lows (n + q) us' = true ∧ ∀ xs, Reps Γ.K μ H us xs → Reps Γ.K (nu μ n s1.1) H us' xs) := fun i c hi => by
    by_cases hl : i < n
    · rw [List.getElem?_append_left (by omega)] at hi
      exact .inl ⟨hl, (getTake hi).1⟩
    · rw [List.getElem?_append_right (by omega), sl] at hi
      have hq := (List.getElem?_eq_some_iff.mp hi).1
      have hq2 : i - n < s1.1.length := by rw [← g.len]; exact hq
      obtain ⟨a1, us, us', a2, a3, a4, a5⟩ := g.at' (i - n) _ (List.getElem?_eq_getElem hq2)
      rw [a3] at hi
      cases hi
      exact .inr ⟨i - n, _, us, us', by omega, List.getElem?_eq_getElem hq2, a1, a2, rfl, a4, fun xs r => a5 Γ.K μ H xs ml.symm (by omega) r⟩
  have ad0 : ∀ (i : Nat) a, i < n → (nu μ n s1.1)[i]? = some a → μ[i]? = some a := fun i a hi ha => by
    unfold nu at ha
    rw [List.getElem?_append_left (by omega)] at ha
    exact (getTake ha).1
  have ad1 : ∀ (q k : Nat) (us : List W) a, s1.1[q]? = some k → st.c[k]? = some (.lst us) → (nu μ n s1.1)[n + q]? = some a → μ[k]? = some a := fun q k us a hq h2 ha => by
    have hk := (List.getElem?_eq_some_iff.mp h2).1
    have e := nu_at (μ := μ) (n := n) (a := μ[k]'(by omega)) (by omega) hq (List.getElem?_eq_getElem (by omega))
    rw [e] at ha
    rw [List.getElem?_eq_getElem (by omega)]; exact ha
  refine ⟨by unfold nu; simp [s.len, g.len], fun i j b c d h1 h2 o1 o2 m1 m2 => ?_, fun i c b h1 m1 => ?_, fun i c h1 _ => ?_, by simp; omega, s.ql, s.qg⟩
  · rcases at0 i c h1 with ⟨p1, p2⟩ | ⟨q, k, us, us2, rfl, p2, p3, p4, p5, p6, _⟩
    · rcases at0 j d h2 with ⟨r1, r2⟩ | ⟨q', k', us', us2', rfl, r2, r3, r4, r5, r6, _⟩
      · exact s.inj i j b c d p2 r2 o1 o2 (ad0 i b p1 m1) (ad0 j b r1 m2)
      · have := s.inj i k' b c _ p2 r4 o1 rfl (ad0 i b p1 m1) (ad1 q' k' us' b r2 r4 m2)
        omega
    · rcases at0 j d h2 with ⟨r1, r2⟩ | ⟨q', k', us', us2', rfl, r2, r3, r4, r5, r6, _⟩
      · have := s.inj k j b _ d p4 r2 rfl o2 (ad1 q k us b p2 p4 m1) (ad0 j b r1 m2)
        omega
      · have e := s.inj k k' b _ _ p4 r4 rfl rfl (ad1 q k us b p2 p4 m1) (ad1 q' k' us' b r2 r4 m2)
        subst e
        obtain ⟨hq, e1⟩ := List.getElem?_eq_some_iff.mp p2
        obtain ⟨hq', e2⟩ := List.getElem?_eq_some_iff.mp r2
        have := (List.getElem_inj (i := q) (j := q') g.nd).mp (e1.trans e2.symm)
        omega
  · rcases at0 i c h1 with ⟨p1, p2⟩ | ⟨q, k, us, us2, rfl, p2, p3, p4, rfl, p6, p7⟩
    · have q1 := s0.cell i c b (by show (st.c.take n)[i]? = _; rw [List.getElem?_take_of_lt p1]; exact p2) (by rw [List.getElem?_take_of_lt p1]; exact ad0 i b p1 m1)
      exact CellOk.ext q1 ⟨fun j x y => by
        have := (List.getElem?_eq_some_iff.mp y).1
        unfold nu
        rw [List.getElem?_append_left this]; exact y, fun _ _ h => h⟩
    · obtain ⟨xs, q1, q2⟩ := s.cell k _ _ p4 (ad1 q k us b p2 p4 m1)
      exact ⟨xs, q1, p7 xs q2⟩
  · rcases at0 i c h1 with ⟨p1, p2⟩ | ⟨q, k, us, us2, rfl, p2, p3, p4, rfl, p6, _⟩
    · exact s0.back i c (by show (st.c.take n)[i]? = _; rw [List.getElem?_take_of_lt p1]; exact p2) (fun k z => by cases z)
    · rw [s.qg _ (by omega)]; exact p6
theorem gcF_ok {μ μ' : List Addr} {σ : L2.St} {H H' : Hp} {n : Nat} {st' : Sto} {w : W} {v : V} {Q : VK} (h : Post Γ Wx (Rep Γ.K) μ σ H Q (gcF n w st')) (hm : st'.may n = true) (hb : Γ.b ≤ n) (hn : n ≤ st'.c.length) (e : Ext Γ.K μ μ' H H') (hl : μ.length = n) (s : Sim Γ μ' st' H') (r : Rep Γ.K μ' H' w v) : Q v H' := by
  unfold gcF at h
  cases eg : gcW st' n 40 w ([], []) with
  | none => rw [eg] at h; exact h _ _ _ e s r
  | some p =>
    obtain ⟨w', s1⟩ := p
    rw [eg] at h
    obtain ⟨⟨g1, _⟩, _, g3⟩ := gcW_ok 40 w ([], []) w' s1 eg (gcI_nil st' n)
    refine h _ _ _ ⟨fun i b q => ?_, e.tup⟩ (s.gc hm hb hn g1) (g3 Γ.K μ' H' v s.len.symm (by rw [s.len]; exact hn) r)
    have q1 := (List.getElem?_eq_some_iff.mp q).1
    have q2 := e.pre i b q
    unfold nu
    rw [List.getElem?_append_left (by rw [List.length_take, s.len]; omega), List.getElem?_take_of_lt (by omega)]
    exact q2
theorem trim_ok {R' : RR W V} {μ μ' : List Addr} {σ : L2.St} {H H' : Hp} {st st' : Sto} {w : W} {v : V} {Q : VK} (h : Post Γ Wx (Rep Γ.K) μ σ H Q (trim st.c.length w st')) (hs : Sim Γ μ st H) (e : Ext Γ.K μ μ' H H') (s : Sim Γ μ' st' H') (r : Rep Γ.K μ' H' w v) : Q v H' := by
  have pre : Ext Γ.K μ (μ'.take st.c.length) H H' := ⟨fun i a q => by
    have := (List.getElem?_eq_some_iff.mp q).1
    have := hs.len
    rw [List.getElem?_take_of_lt (by omega)]
    exact e.pre i a q, e.tup⟩
  have hn : st.c.length ≤ st'.c.length := by
    rcases Nat.le_total st.c.length st'.c.length with z | z
    · exact z
    · rcases Nat.lt_or_ge st'.c.length st.c.length with y | y
      · exfalso
        have h1 := hs.len
        have h2 := s.len
        have : μ[st'.c.length]? = some μ[st'.c.length] := List.getElem?_eq_getElem (by omega)
        have q := (List.getElem?_eq_some_iff.mp (e.pre _ _ this)).1
        omega
      · exact y
  unfold trim at h
  split at h
  · rename_i hm
    split at h
    · rename_i hp
      exact h _ _ _ pre (s.cut hm hs.bl) (r.pure hp)
    · split at h
      · rename_i k _
        split at h
        · rename_i hk
          split at h
          · rename_i ws hc
            split at h
            · rename_i hp
              cases r with
              | ref hr =>
                rename_i a
                refine h _ _ _ ⟨fun i b q => ?_, e.tup⟩ (s.cutPush hm hs.bl hk hc hp hr) (.ref ?_)
                · have := (List.getElem?_eq_some_iff.mp (pre.pre i b q)).1
                  rw [List.getElem?_append_left this]
                  exact pre.pre i b q
                · have kl := (List.getElem?_eq_some_iff.mp hc).1
                  have ml := s.len
                  have e1 : (st'.cut st.c.length).c.length = (μ'.take st.c.length).length := by simp [Sto.cut, ml]
                  rw [e1, List.getElem?_append_right (Nat.le_refl _)]
                  simp
            · exact gcF_ok h hm hs.bl hn e hs.len s r
          · exact h _ _ _ e s r
        · exact h _ _ _ e s r
      · rename_i ws _
        split at h
        · rename_i vs ks hr
          obtain ⟨g1, _, g3⟩ := relo_ok (μ := μ') hr ⟨List.nodup_nil, fun k hk => nomatch hk⟩
          cases r with
          | tup q1 q2 =>
            have tl : (μ'.take st.c.length).length = st.c.length := by have := s.len; simp; omega
            refine h _ _ _ ⟨fun i b q => ?_, e.tup⟩ (s.reloc hm hs.bl hn g1) (.tup q1 (g3 (fun q k a hq ha => ?_) q2))
            · have := (List.getElem?_eq_some_iff.mp (pre.pre i b q)).1
              rw [List.getElem?_append_left this]
              exact pre.pre i b q
            · rw [List.getElem?_append_right (by omega), tl, Nat.add_sub_cancel_left, List.getElem?_map, hq]
              show some (μ'.getD k 0) = some a
              rw [List.getD_eq_getElem?_getD, ha]; rfl
        · exact gcF_ok h hm hs.bl hn e hs.len s r
      · exact h _ _ _ e s r
  · exact h _ _ _ e s r
end
end RB
namespace RB
open PySem PySem.Spec PyProof.Rows L2
structure Fn (Γ : Gm) (P : Program) (w : World) (mg : Str → Option Value) (base : Heap) (k : Nat) (x : Str) (np : Nat) (dws : List W) (F : List W → Sto → Res W) : Prop where
  ex : ∃ (f : Addr) (fd : FuncData) (ps : List Str) (ds : List Value) (dvs : List V), FnOk P w Γ.K mg base (L2.CX P w) k f fd ps (spF Γ np F) ∧ mg x = some (.ref f) ∧ PySem.W.keepIn Γ.K (.ref f) = true ∧ L2.Binds Γ.K fd ps ds ∧ Vals dvs ds ∧ ∀ μ H, Reps Γ.K μ H dws dvs
  mkd : Mark F
def eCall (F : List W → Sto → Res W) (dws : List W) (a : Evs) : Ev := fun l st => (a l st).bind fun ws st1 => F (ws ++ dws) st1
section
variable {P : Program} {w : World} {K : PySem.W.Frag} {mg : Str → Option Value} {base : Heap} {cl ec : Nat → Addr} {fld : Nat → Str}
theorem start_rep {Γ : Gf} {μ : List Addr} {H : Hp} {ws : List W} {vs : List V} (r : Reps Γ.K μ H ws vs) (N : List Str) : LRep Γ.K μ H (ws.map some ++ List.replicate (N.length - ws.length) none) (L2.start N vs) := by
  unfold L2.start
  rw [← r.length]
  refine ⟨by simp [r.length], fun i w h => ?_⟩
  rcases Nat.lt_or_ge i ws.length with q | q
  · rw [List.getElem?_append_left (by simpa using q)] at h
    rw [List.getElem?_map] at h
    cases e : ws[i]? with
    | none => rw [e] at h; cases h
    | some w' =>
      rw [e] at h
      obtain rfl : w' = w := by simpa using h
      obtain ⟨v, h1, h2⟩ := r.get e
      refine ⟨v, ?_, h2⟩
      rw [List.getElem?_append_left (by simp; rw [← r.length]; exact q), List.getElem?_map, h1]
      rfl
  · rw [List.getElem?_append_right (by simpa using q)] at h
    have := List.mem_of_getElem? h
    rw [List.mem_replicate] at this
    exact absurd this.2 (by simp)
theorem body_run {np n : Nat} {N : List Str} {sx : Sx} {vs : List V} {H : Hp} {Q : VK} {E : XK} (hn : N.length = n) (h : spF ⟨K, cl, ec, fld⟩ np (defn n sx) vs H Q E) : ∃ b q, tS ⟨⟨K, cl, ec, fld⟩, b, q⟩ (fun cls d _ H => E cls d H) sx { nx := fun _ H' => Q .non H', rt := Q } (L2.start N vs) H := by
  obtain ⟨μ, c, ws, q, hs, hr, hl, hpo⟩ := h
  refine ⟨c.length, q, μ, _, ⟨c, none⟩, hs, start_rep (Γ := ⟨⟨K, cl, ec, fld⟩, c.length, q⟩) hr N, ?_⟩
  rw [hn]
  unfold defn at hpo
  dsimp only at hpo
  generalize sx (ws.map some ++ List.replicate (n - ws.length) none) ⟨c, none⟩ = r at hpo ⊢
  cases r with
  | nx l1 st1 =>
    dsimp only at hpo
    rw [reM_none] at hpo
    exact fun μ1 H1 σ1 e1 s1 l1 => trim_ok (R' := fun _ _ _ _ => True) (st := ⟨c, none⟩) hpo hs e1 s1 .non
  | rt w1 st1 =>
    dsimp only at hpo
    rw [reM_none] at hpo
    exact fun μ1 H1 v e1 s1 r1 => trim_ok (R' := fun _ _ _ _ => True) (st := ⟨c, none⟩) hpo hs e1 s1 r1
  | bk l1 st1 => exact hpo.elim
  | ct l1 st1 => exact hpo.elim
  | err => exact hpo.elim
  | exc k p l1 st1 =>
    intro μ1 H1 σ1 d v e1 s1 _ r1 q1
    dsimp only at hpo
    rw [reM_none] at hpo
    split at hpo
    · rename_i hm
      rw [Bool.and_eq_true] at hm
      have pre : Ext K μ (μ1.take c.length) H H1 := ⟨fun i a q => by
        have h1 := (List.getElem?_eq_some_iff.mp q).1
        have h2 : μ.length = c.length := hs.len
        rw [List.getElem?_take_of_lt (by omega)]
        exact e1.pre i a q, e1.tup⟩
      exact hpo _ H1 d v pre (s1.cut hm.1 (Nat.le_refl _)) (r1.pure hm.2) q1
    · exact hpo μ1 H1 d v e1 s1 r1 q1
theorem q_ok {x qual : Str} {st : Stmt} {f : Addr} {fd : FuncData} {N ps : List Str} {k np n : Nat} {sx : Sx} (F : L2.Fun K x qual st f fd) (S : FnScope N ps (defScope st)) (hn : N.length = n) (hp : ps.length = np)
    (body : ∀ (b : Nat) (q : Nat → Nat) (cdv : Value) (A : Around) (outer : List Env) (s : Shared) (H : Hp) (E : XK), Room k (A.deeper (envOfC qual (defScope st) s.heap.objs.size f cdv)) →
      PSs (cxOf (L2.CX P w) P w K mg base N qual (defScope st) f cdv A outer s H E) (defBody st) (tS ⟨⟨K, cl, ec, fld⟩, b, q⟩ (fun cls d _ H => E cls d H) sx)) : FnOk P w K mg base (L2.CX P w) (k + 1) f fd ps (spF ⟨K, cl, ec, fld⟩ np (defn n sx)) := by
  refine F.okX S (fun vs H Q E h => by rw [hp]; exact spF_len h) (fun cdv A outer s H vs Q E hr h => let ⟨b, q, h⟩ := body_run hn h; ⟨_, body b q cdv A outer s H E hr, h⟩)
end
section
variable {X : Cx} {Γ : Gf} {Wx : WX} {e a b o : Expr} {es : List Expr} {ea eb eo : Ev} {eas : Evs}
theorem spF_gen {np : Nat} {F : List W → Sto → Res W} {μ : List Addr} {H : Hp} {st : Sto} {ws : List W} {vs : List V} {Q : VK} {E : XK} (mk : Mark F) (hs : Sim Γ μ st H) (hr : Reps Γ.K μ H ws vs) (hl : ws.length = np)
    (h : Post Γ (fun cls d _ H => E cls d H) (Rep Γ.K) μ [] H Q (F ws st)) : spF Γ.toGm np F vs H Q E := by
  refine ⟨μ, st.c, ws, _, hs.enter, hr, hl, ?_⟩
  rw [mk ws st] at h
  generalize F ws ⟨st.c, none⟩ = r at h ⊢
  cases r with
  | ok w st1 => exact fun μ1 H1 v e1 s1 r1 => h μ1 H1 v e1 (hs.leave s1) r1
  | exc c p st1 => exact fun μ1 H1 d v e1 s1 r1 q1 => h μ1 H1 d v e1 (hs.leave s1) r1 q1
  | err => exact h
theorem spF_run {np : Nat} {dws : List W} {dvs : List V} {F : List W → Sto → Res W} {μ : List Addr} {σ : L2.St} {H : Hp} {st : Sto} {ws : List W} {vs : List V} {Q : VK} (mk : Mark F) (hs : Sim Γ μ st H) (hr : Reps Γ.K μ H ws vs) (hd : Reps Γ.K μ H dws dvs) (hl : (ws ++ dws).length = np)
    (h : Post Γ Wx (Rep Γ.K) μ σ H Q (F (ws ++ dws) st)) : spF Γ.toGm np F (vs ++ dvs) H Q (WE Wx σ) := by
  refine spF_gen mk hs (hr.append hd) hl ?_
  generalize F (ws ++ dws) st = r at h ⊢
  cases r with
  | ok w st1 => exact h
  | exc c p st1 => exact h
  | err => exact h
theorem qe_call {k np : Nat} {x : Str} {dws : List W} {F : List W → Sto → Res W} {p pos : Pos} (G : Fn Γ.toGm X.prog X.w X.mg X.base k x np dws F) (hK : X.K = Γ.K) (hr : Room k X.A) (tk : Takes X Wx) (hg : Gl X x) (ha : PA X (e :: es) (tA Γ Wx eas))
    (hlen : ∀ l st ws st1, eas l st = .ok ws st1 → (ws ++ dws).length = np) (hdb : (x == ("__debug__" : Str)) = false := by decide) (he : starEach (e :: es) X.env = (false, eval e X.env) :: starEach es X.env := by rfl) (hpl : (backTo pos (starEach es X.env)).any (·.1) = false := by rfl) :
    PE X (.Call (.Name x p) (e :: es) [] pos) (tE Γ Wx (eCall F dws eas)) := by
  obtain ⟨f, fd, ps, ds, dvs, F1, hm, hk, hb, hd, hdr⟩ := G.ex
  rw [← hK] at F1 hk hb
  refine PE_imp (pe_callSD F1 hr hg hm hk hb hd (fun σ => passAt tk σ) ha hdb he hpl) fun σ H Q ⟨μ, l, st, hs, hl, h⟩ => ?_
  have hh : ∀ ws st1, eas l st = .ok ws st1 → (ws ++ dws).length = np := fun ws st1 q => hlen l st ws st1 q
  unfold eCall at h
  refine ⟨μ, l, st, hs, hl, ?_⟩
  cases ee : eas l st with
  | ok ws st1 =>
    rw [ee] at h
    exact fun μ1 H1 vs e1 s1 r1 => spF_run G.mkd s1 r1 (hdr μ1 H1) (hh ws st1 ee) (Post.mono (show Post Γ Wx (Rep Γ.K) μ σ H Q (F (ws ++ dws) st1) from h) e1)
  | exc c p st1 => rw [ee] at h; exact h
  | err => rw [ee] at h; exact h
def evLen (n : Nat) (a : Evs) : Prop := ∀ l st ws st1, a l st = .ok ws st1 → ws.length = n
theorem evLen_nil : evLen 0 evNil := fun l st ws st1 h => by cases h; rfl
theorem bind_ok {α β : Type} {r : Res α} {k : α → Sto → Res β} {b : β} {st : Sto} (h : r.bind k = .ok b st) : ∃ a st1, r = .ok a st1 ∧ k a st1 = .ok b st := by
  cases r with
  | ok a st1 => exact ⟨a, st1, rfl, h⟩
  | exc c p st1 => cases h
  | err => cases h
theorem evLen_cons {n : Nat} (h : evLen n eas) : evLen (n + 1) (evCons ea eas) := fun l st ws st1 q => by
  obtain ⟨x, st2, _, q⟩ := bind_ok q
  obtain ⟨xs, st3, q1, q⟩ := bind_ok q
  cases q
  have := h _ _ _ _ q1
  simpa using this
theorem qe_call1 {k np : Nat} {x : Str} {dws : List W} {F : List W → Sto → Res W} {p pos : Pos} (G : Fn Γ.toGm X.prog X.w X.mg X.base k x np dws F) (hK : X.K = Γ.K) (hr : Room k X.A) (tk : Takes X Wx) (hg : Gl X x) (ha : PA X (e :: es) (tA Γ Wx eas)) (m : Nat) (hm : m + dws.length = np)
    (hlen : evLen m eas) (hdb : (x == ("__debug__" : Str)) = false := by decide) (he : starEach (e :: es) X.env = (false, eval e X.env) :: starEach es X.env := by rfl) (hpl : (backTo pos (starEach es X.env)).any (·.1) = false := by rfl) :
    PE X (.Call (.Name x p) (e :: es) [] pos) (tE Γ Wx (eCall F dws eas)) :=
  qe_call G hK hr tk hg ha (fun l st ws st1 q => by rw [List.length_append, hlen l st ws st1 q, hm]) hdb he hpl
def putW (f : Str) (v : W) : List (Str × W) → List (Str × W)
  | [] => [(f, v)]
  | (g, x) :: r => if g = f then (g, v) :: r else (g, x) :: putW f v r
theorem FRep.put {K : PySem.W.Frag} {μ : List Addr} {H : Hp} {f : Str} {w : W} {v : V} (r : Rep K μ H w v) : ∀ {fs : List (Str × W)} {gs : List (Str × V)}, FRep K μ H fs gs → FRep K μ H (putW f w fs) (putF f v gs)
  | _, _, .nil => .cons ⟨rfl, r⟩ .nil
  | (g, x) :: _, (g', y) :: _, .cons a b => by
    obtain ⟨a1, a2⟩ := a
    have a1 : g = g' := a1
    subst a1
    unfold putW putF
    by_cases h : g = f
    · rw [if_pos h, if_pos h]; exact .cons ⟨rfl, r⟩ b
    · rw [if_neg h, if_neg h]; exact .cons ⟨rfl, a2⟩ (FRep.put r b)
theorem FRep.lookup {K : PySem.W.Frag} {μ : List Addr} {H : Hp} {f : Str} {w : W} : ∀ {fs : List (Str × W)} {gs : List (Str × V)}, FRep K μ H fs gs → fs.lookup f = some w → ∃ v, gs.lookup f = some v ∧ Rep K μ H w v
  | _, _, .nil, h => by cases h
  | (g, x) :: r, (g', y) :: s, .cons a b, h => by
    obtain ⟨a1, a2⟩ := a
    have a1 : g = g' := a1
    subst a1
    rw [List.lookup_cons] at h ⊢
    by_cases q : (f == g) = true
    · simp only [q] at h ⊢; cases h; exact ⟨y, rfl, a2⟩
    · simp only [Bool.not_eq_true] at q; simp only [q] at h ⊢; exact FRep.lookup b h
theorem FRep.length {K : PySem.W.Frag} {μ : List Addr} {H : Hp} : ∀ {fs : List (Str × W)} {gs : List (Str × V)}, FRep K μ H fs gs → fs.length = gs.length
  | _, _, .nil => rfl
  | _, _, .cons _ b => congrArg (· + 1) (FRep.length b)
def eFld (c : Nat) (f : Str) (a : Ev) : Ev := fun l st => (a l st).bind fun x st1 => match x with
  | .ref n => match st1.c[n]? with
    | some (.ins k fs) => if k = c then (match fs.lookup f with | some v => .ok v st1 | none => .err) else .err
    | _ => .err
  | _ => .err
theorem qe_fld {c : Nat} {f : Str} {pos : Pos} (hK : X.K = Γ.K) (hc : Cls Γ.K (Γ.cl c)) (hn : NoAttr Γ.K (Γ.cl c) f) (ha : PE X a (tE Γ Wx ea)) (hb : attributeBase a f X.env (eval a X.env) = eval a X.env := by rfl) : PE X (.Attribute a f pos) (tE Γ Wx (eFld c f ea)) :=
  PE_imp (pe_fld ha hb) fun σ H Q ⟨μ, l, st, hs, hl, h⟩ => tG_bind hs hl h _ fun w st1 μ1 H1 v e1 s1 r1 h1 => by
    split at h1
    · rename_i n
      split at h1
      · rename_i k fs ec
        split at h1
        · rename_i hk
          subst hk
          split at h1
          · rename_i wv ew
            cases r1 with
            | ref hm =>
              obtain ⟨dx, gs, q1, q2⟩ := s1.cell n _ _ ec hm
              obtain ⟨y, z1, z2⟩ := q2.lookup ew
              rw [hK]
              exact ⟨_, _, dx, gs, y, rfl, q1, hc, hn, z1, h1.here s1 z2⟩
          · exact h1.elim
        · exact h1.elim
      · exact h1.elim
    · exact h1.elim
def sFldW (c : Nat) (f : Str) (o e : Ev) : Sx := fun l st => xs (e l st) l fun v st1 => xs (o l st1) l fun x st2 => match x with
  | .ref n => match st2.c[n]? with
    | some (.ins k fs) => if k = c ∧ fs.length < 1000 then .nx l (st2.put n (.ins k (putW f v fs)) (W.low n v)) else .err
    | _ => .err
  | _ => .err
theorem Sim.writeI {μ : List Addr} {st : Sto} {H : Hp} {n c : Nat} {fs fs' : List (Str × W)} {p dx : Addr} {gs gs' : List (Str × V)} {b : Bool} (s : Sim Γ μ st H) (hn : st.c[n]? = some (.ins c fs)) (hm : μ[n]? = some p) (hp : H p = some (.ins (Γ.cl c) dx gs))
    (hc : FRep Γ.K μ (upd H p (.ins (Γ.cl c) dx gs')) fs' gs') (hb : b = true → ∀ m, n ≤ m → (Cell.ins c fs).low m = true → (Cell.ins c fs').low m = true) (hE : Ext Γ.K μ μ H (upd H p (.ins (Γ.cl c) dx gs'))) : Sim Γ μ (st.put n (.ins c fs') b) (upd H p (.ins (Γ.cl c) dx gs')) := by
  have hlt := (List.getElem?_eq_some_iff.mp hn).1
  have own : ∀ (i : Nat) d, (st.c.set n (.ins c fs'))[i]? = some d → d.own = true → ∃ d', st.c[i]? = some d' ∧ d'.own = true := fun i d h1 h2 => by
    by_cases z : n = i
    · subst z; exact ⟨_, hn, rfl⟩
    · rw [List.getElem?_set_ne z] at h1; exact ⟨d, h1, h2⟩
  refine ⟨by simp [s.len, Sto.put], fun i j a d e h1 h2 o1 o2 m1 m2 => ?_, fun i d a h1 m1 => ?_, fun i d h1 hk => ?_, by have := s.bl; simp [Sto.put]; omega, s.ql, s.qg⟩
  · obtain ⟨d', x1, x2⟩ := own i d h1 o1
    obtain ⟨e', y1, y2⟩ := own j e h2 o2
    exact s.inj i j a d' e' x1 y1 x2 y2 m1 m2
  · by_cases z : n = i
    · subst z
      have h1 : (st.c.set n (.ins c fs'))[n]? = some d := h1
      rw [List.getElem?_set_self hlt] at h1
      cases h1
      rw [hm] at m1; cases m1
      exact ⟨dx, gs', upd_same, hc⟩
    · have h1 : (st.c.set n (.ins c fs'))[i]? = some d := h1
      rw [List.getElem?_set_ne z] at h1
      have q := s.cell i d a h1 m1
      have keep : ∀ {u : HO}, H a = some u → (d.own = true ∨ ∀ C D g, u ≠ .ins C D g) → upd H p (.ins (Γ.cl c) dx gs') a = some u := fun {u} q nl => by
        rw [upd_ne]
        · exact q
        · intro zz
          subst zz
          rcases nl with nl | nl
          · exact z (s.inj n i _ _ d hn h1 rfl nl hm m1)
          · rw [hp] at q; cases q; exact nl _ _ _ rfl
      cases d with
      | lst ws => obtain ⟨xs, h1, h2⟩ := q; exact ⟨xs, keep h1 (.inl rfl), h2.mono hE⟩
      | scr ws =>
        obtain ⟨xs, h1, h2⟩ := q
        refine ⟨xs, ?_, h2.mono hE⟩
        rcases h1 with h1 | ⟨ob, h1⟩
        · exact .inl h1
        · exact .inr ⟨ob, keep h1 (.inr fun _ _ _ z => by cases z)⟩
      | ins c fs => obtain ⟨dx, gs, h1, h2⟩ := q; exact ⟨dx, gs, keep h1 (.inl rfl), h2.mono hE⟩
      | dct fs => obtain ⟨gs, h1, h2⟩ := q; exact ⟨gs, keep h1 (.inl rfl), h2.mono hE⟩
  · obtain ⟨k1, k2⟩ := mark_lt hk
    have h1 : (st.c.set n (.ins c fs'))[i]? = some d := h1
    by_cases z : n = i
    · subst z
      rw [List.getElem?_set_self hlt] at h1
      cases h1
      cases b with
      | true => exact hb rfl _ (s.qi n) (s.back n _ hn k1)
      | false => exact absurd (k2 rfl) (Nat.lt_irrefl _)
    · rw [List.getElem?_set_ne z] at h1
      exact s.back i d h1 k1
theorem ext_ins {K : PySem.W.Frag} {μ : List Addr} {H : Hp} {p C dx : Addr} {gs gs' : List (Str × V)} (hp : H p = some (.ins C dx gs)) : Ext K μ μ H (upd H p (.ins C dx gs')) := ⟨fun _ _ h => h, fun a xs h => by
  have ne : ∀ {u : HO}, H a = some u → (∀ C D g, u ≠ .ins C D g) → a ≠ p := fun {u} e nl z => by
    subst z
    rw [hp] at e; cases e; exact nl _ _ _ rfl
  rcases h with (h | ⟨ob, h⟩) | h
  · exact .inl (.inl (by rw [upd_ne (ne h fun _ _ _ z => by cases z)]; exact h))
  · exact .inl (.inr ⟨ob, by rw [upd_ne (ne h fun _ _ _ z => by cases z)]; exact h⟩)
  · exact .inr h⟩
theorem low_put {n : Nat} {f : Str} {v : W} (hv : W.low n v = true) : ∀ {fs : List (Str × W)}, W.lows n (fs.map (·.2)) = true → W.lows n ((putW f v fs).map (·.2)) = true
  | [], _ => by simp [putW, W.lows, hv]
  | (g, x) :: r, h => by
    simp [W.lows] at h
    unfold putW
    split
    · simp [W.lows, hv]; simpa using h.2
    · simp [W.lows, h.1]; simpa using low_put (f := f) hv (fs := r) (by simpa using h.2)
theorem qs_fld {c : Nat} {f : Str} {pos pos' : Pos} (hK : X.K = Γ.K) (hc : Cls Γ.K (Γ.cl c)) (hn : NoAttr Γ.K (Γ.cl c) f) (ho : PE X o (tE Γ Wx eo)) (he : PE X e (tE Γ Wx ea)) (hs : swapsWith e (some (.Attribute o f pos')) pos.line X.env = pure false := by rfl) :
    PS X (.Assign [.Attribute o f pos'] e pos) (tS Γ Wx (sFldW c f eo ea)) :=
  PS_imp (ps_fld ho he hs) fun D σ H ⟨μ, l, st, hs, hl, h⟩ => tG_bindS hs hl h _ fun v st1 μ1 H1 vv e1 s1 r1 h1 => tG_bindS s1 (hl.mono e1) h1 _ fun w st2 μ2 H2 wv e2 s2 r2 h2 => by
    split at h2
    · rename_i n
      split at h2
      · rename_i k fs ec
        split at h2
        · rename_i hk
          obtain ⟨hk, hlen⟩ := hk
          subst hk
          cases r2 with
          | ref hm =>
            obtain ⟨dx, gs, q1, q2⟩ := s2.cell n _ _ ec hm
            rw [hK]
            refine ⟨_, _, dx, gs, rfl, q1, hc, hn, by rw [← q2.length]; exact hlen, ?_⟩
            have E : Ext Γ.K μ2 μ2 H2 (upd H2 _ (.ins (Γ.cl k) dx (putF f vv gs))) := ext_ins q1
            exact h2 _ _ _ E (s2.writeI ec hm q1 ((q2.put (r1.mono e2)).mono E) (fun b m hm q => low_put (W.low_mono hm b) q) E) (hl.mono (e1.trans (e2.trans E)))
        · exact h2.elim
      · exact h2.elim
    · exact h2.elim
structure FnI (Γ : Gm) (P : Program) (w : World) (mg : Str → Option Value) (base : Heap) (k : Nat) (x : Str) (c : Nat) (np : Nat) (dws : List W) (F : List W → Sto → Res W) : Prop where
  ex : ∃ (f : Addr) (fd : FuncData) (ps : List Str) (ds : List Value) (dvs : List V), FnOk P w Γ.K mg base (L2.CX P w) k f fd ps (spF Γ np F) ∧ Mk Γ.K (Γ.cl c) f ∧ mg x = some (.ref (Γ.cl c)) ∧ L2.Binds Γ.K fd ps ds ∧ Vals dvs ds ∧ ∀ μ H, Reps Γ.K μ H dws dvs
  mkd : Mark F
def eMake (c : Nat) (F : List W → Sto → Res W) (dws : List W) (a : Evs) : Ev := fun l st => (a l st).bind fun ws st1 => (F (.ref st1.c.length :: (ws ++ dws)) (st1.push (.ins c []))).bind fun v st2 => match v with | .non => .ok (.ref st1.c.length) st2 | _ => .err
theorem make_at {CX : CXT} {k : Nat} {f C : Addr} {fd : FuncData} {ps : List Str} {sp : Sp} {dvs : List V} {ds : List Value} {E : XK} {pins : List (Addr × Obj)} {σ : L2.St} {H : Hp} {s : Shared} {Q : VK} {us : List Value} {vs : List V}
    (M : Mk X.K C f) (G : FnOk X.prog X.w X.K X.mg X.base CX k f fd ps sp) (room : Room (k + 1) X.A) (hb : L2.Binds X.K fd ps ds) (hd : Vals dvs ds) (hx : PassesAt CX X σ E) (I : L2.Inv X pins σ H s) (rv : Vals vs us)
    (hq : ∀ y dy, H y = none → H dy = none → dy ≠ y → sp (.ref y :: (vs ++ dvs)) (upd (upd H dy (.own y)) y (.ins C dy [])) (fun v H2 => v = .non ∧ Q (.ref y) H2) E) : wpAny (model X.prog X.w) X.A (call (.ref C) us) (EP X pins σ Q) X.xe s := by
  have want := hq (s.heap.objs.size + 1) s.heap.objs.size (I.hok.fresh (Nat.le_succ _)) (I.hok.fresh (Nat.le_refl _)) (Nat.ne_of_lt (Nat.lt_succ_self _))
  have J := L2.Inv.made (C := C) I
  have rr : Vals (V.ref (s.heap.objs.size + 1) :: (vs ++ dvs)) (Value.ref (s.heap.objs.size + 1) :: (us ++ ds)) := .cons rfl (rv.append hd)
  have len : (Value.ref (s.heap.objs.size + 1) :: us ++ ds).length = ps.length := by
    have q := rr.length
    rw [G.len _ _ _ _ want] at q
    exact q.symm
  have body := G.run _ X.stack _ _ ⟨Value.ref (s.heap.objs.size + 1) :: us, []⟩ (Value.ref (s.heap.objs.size + 1) :: (us ++ ds)) _ _ E (room.make C us []) (J.env0.make C us []) (hb _ (Value.ref (s.heap.objs.size + 1) :: us) J.kIn len) rr want
  refine wpAny_call (make_map (f := f) I.kIn M.makes M.init (beq_iff_eq.mp M.fn) (codeAny_mono body fun res s2 h2 => ?_))
  match res, h2 with
  | .error er, h2 => exact hx pins _ _ er s2 J h2
  | .ok (.ret u), h2 =>
    obtain ⟨v, H3, J3, r3, e3, q3⟩ := J.after h2
    cases e3
    exact ⟨r3, V.ref (s.heap.objs.size + 1), H3, J3, rfl, q3⟩
  | .ok .next, h2 => exact h2.elim
  | .ok .brk, h2 => exact h2.elim
  | .ok .cont, h2 => exact h2.elim
theorem qe_make {k np c : Nat} {x : Str} {dws : List W} {F : List W → Sto → Res W} {p pos : Pos} (G : FnI Γ.toGm X.prog X.w X.mg X.base k x c np dws F) (hK : X.K = Γ.K) (hr : Room (k + 1) X.A) (tk : Takes X Wx) (hg : Gl X x) (ha : PA X (e :: es) (tA Γ Wx eas)) (m : Nat) (hm : m + dws.length + 1 = np)
    (hlen : evLen m eas) (hdb : (x == ("__debug__" : Str)) = false := by decide) (he : starEach (e :: es) X.env = (false, eval e X.env) :: starEach es X.env := by rfl) (hpl : (backTo pos (starEach es X.env)).any (·.1) = false := by rfl) :
    PE X (.Call (.Name x p) (e :: es) [] pos) (tE Γ Wx (eMake c F dws eas)) := by
  obtain ⟨f, fd, ps, ds, dvs, F1, M, hmg, hb, hd, hdr⟩ := G.ex
  rw [← hK] at F1 M hb
  refine ⟨fun pins s σ H Q I hh => ?_⟩
  obtain ⟨μ, l, st, hs, hl, h⟩ := hh
  refine wpAny_Call_Name_kw (ld_glob I hg hmg ?_ hdb)
  have hE : tA Γ Wx eas σ H (fun vs H1 => ∀ y dy, H1 y = none → H1 dy = none → dy ≠ y → spF Γ.toGm np F (.ref y :: (vs ++ dvs)) (upd (upd H1 dy (.own y)) y (.ins (Γ.cl c) dy [])) (fun v H2 => v = .non ∧ Q (.ref y) H2) (WE Wx σ)) := by
    refine ⟨μ, l, st, hs, hl, ?_⟩
    unfold eMake at h
    cases ee : eas l st with
    | err => rw [ee] at h; exact h
    | exc c p st1 => rw [ee] at h; exact h
    | ok ws st1 =>
      rw [ee] at h
      intro μ1 H1 vs e1 s1 r1 y dy hy hdy hne
      have h1 : Post Γ Wx (Rep Γ.K) μ1 σ H1 Q ((F (.ref st1.c.length :: (ws ++ dws)) (st1.push (.ins c []))).bind fun v st2 => match v with | .non => .ok (.ref st1.c.length) st2 | _ => .err) := Post.mono h e1
      have E1 : Ext Γ.K μ1 μ1 H1 (upd H1 dy (.own y)) := ext_upd (.inl hdy)
      have n1 : upd H1 dy (.own y) y = none := by rw [upd_ne (Ne.symm hne)]; exact hy
      have E2 : Ext Γ.K μ1 (μ1 ++ [y]) (upd H1 dy (.own y)) (upd (upd H1 dy (.own y)) y (.ins (Γ.cl c) dy [])) := ext_new n1
      have S2 : Sim Γ (μ1 ++ [y]) (st1.push (.ins c [])) (upd (upd H1 dy (.own y)) y (.ins (Γ.cl c) dy [])) := (s1.other hdy).new n1 ⟨dy, [], upd_same, .nil⟩ rfl
      have E3 := E1.trans E2
      refine spF_gen G.mkd (ws := .ref st1.c.length :: (ws ++ dws)) S2 (.cons (.ref (by rw [← s1.len]; simp)) ((r1.mono E3).append (hdr _ _))) ?_ ?_
      · rw [List.length_cons, List.length_append, hlen l st ws st1 ee, hm]
      · have h2 := Post.mono h1 E3
        generalize F (.ref st1.c.length :: (ws ++ dws)) (st1.push (.ins c [])) = r at h2 ⊢
        cases r with
        | err => exact h2
        | exc c p st2 => exact h2
        | ok w st2 =>
          intro μ4 H4 v e4 s4 r4
          cases w with
          | non =>
            cases r4
            exact ⟨rfl, h2 μ4 H4 _ e4 s4 (.ref (e4.pre _ _ (by rw [← s1.len]; simp)))⟩
          | _ => exact h2.elim
  refine PySem.W.callWith_K (h₀ := X.base) I.ok.mod.kin M.kp (thn (ha.run pos pins s σ H _ I hE) fun us s1 ⟨vs, H1, I1, r, q⟩ => ⟨I1.kIn, ?_⟩) he hpl
  exact make_at M F1 hr hb hd (passAt tk σ) I1 r q
end
end RB
namespace RB
open PySem PySem.Spec PyProof.Rows L2
mutual
def W.dat : Nat → W → Option PyData
  | _, .non => some .none
  | _, .bl b => some (.bool b)
  | _, .int i => some (.int i)
  | _, .str x => if PyData.strOk x = true then some (.str x) else none
  | n + 1, .tup ws => (W.dats n ws).map .tuple
  | 0, .tup _ => none
  | _, .ref _ => none
def W.dats : Nat → List W → Option (List PyData)
  | _, [] => some []
  | n, w :: ws => match W.dat n w, W.dats n ws with
    | some d, some ds => some (d :: ds)
    | _, _ => none
end
def datOf (st : Sto) : W → Option PyData
  | .ref n => match getL st n with | some ws => (W.dats 8 ws).map .list | none => none
  | w => W.dat 9 w
section
variable {K : PySem.W.Frag} {μ : List Addr} {H : Hp}
mutual
theorem dat_rep {v : V} {d : PyData} : ∀ {n : Nat} {w : W}, W.dat n w = some d → Rep K μ H w v → Dp K H v d ∧ d.canLay0 = true ∧ d.depth ≤ n
  | n, .non, h, .non => by cases n <;> (simp only [W.dat] at h; cases h; exact ⟨.non, rfl, Nat.zero_le _⟩)
  | n, .bl b, h, .bl _ => by cases n <;> (simp only [W.dat] at h; cases h; exact ⟨.bl b, rfl, Nat.zero_le _⟩)
  | n, .int b, h, .int _ => by cases n <;> (simp only [W.dat] at h; cases h; exact ⟨.int b, rfl, Nat.zero_le _⟩)
  | n, .str b, h, .str _ => by
    have h : (if PyData.strOk b = true then some (PyData.str b) else none) = some d := by cases n <;> simpa only [W.dat] using h
    split at h
    · rename_i q
      cases h
      exact ⟨.str b, q, Nat.zero_le _⟩
    · cases h
  | 0, .tup ws, h, _ => by simp [W.dat] at h
  | n + 1, .tup ws, h, .tup a b => by
    simp only [W.dat] at h
    cases e : W.dats n ws with
    | none => rw [e] at h; cases h
    | some ds =>
      rw [e] at h
      cases h
      obtain ⟨h1, h2, h3⟩ := dats_rep e b
      exact ⟨.tup a h1, by simpa [PyData.canLay0] using h2, by simp only [PyData.depth]; omega⟩
  | 0, .ref k, h, _ => by simp [W.dat] at h
  | n + 1, .ref k, h, _ => by simp [W.dat] at h
theorem dats_rep : ∀ {n : Nat} {ws : List W} {vs : List V} {ds : List PyData}, W.dats n ws = some ds → Reps K μ H ws vs → DpAll K H vs ds ∧ PyData.canLayAll0 ds = true ∧ PyData.depthAll ds ≤ n
  | n, [], _, ds, h, .nil => by cases n <;> (simp only [W.dats] at h; cases h; exact ⟨.nil, rfl, Nat.zero_le _⟩)
  | n, w :: ws, _, ds, h, .cons a b => by
    have h : (match W.dat n w, W.dats n ws with | some d, some ds => some (d :: ds) | _, _ => none) = some ds := by cases n <;> simpa only [W.dats] using h
    cases e1 : W.dat n w with
    | none => rw [e1] at h; cases h
    | some d =>
      cases e2 : W.dats n ws with
      | none => rw [e1, e2] at h; cases h
      | some es =>
        rw [e1, e2] at h
        cases h
        obtain ⟨x1, x2, x3⟩ := dat_rep e1 a
        obtain ⟨y1, y2, y3⟩ := dats_rep e2 b
        refine ⟨.cons x1 y1, by simp [PyData.canLayAll0, x2, y2], ?_⟩
        simp only [PyData.depthAll]
        omega
end
theorem shaped_of {d : PyData} {n : Nat} (h : d.canLay0 = true) (h2 : d.depth ≤ n) (hn : n ≤ 64) : SeqAt.shaped d = true := by
  unfold SeqAt.shaped
  rw [h, decide_eq_true (by omega)]
  rfl
theorem datOf_rep {Γ : Gf} {st : Sto} {w : W} {v : V} {d : PyData} (hs : Sim Γ μ st H) (h : datOf st w = some d) (r : Rep Γ.K μ H w v) : Dp Γ.K H v d ∧ SeqAt.shaped d = true := by
  have key : ∀ {w : W} {v : V}, W.dat 9 w = some d → Rep Γ.K μ H w v → Dp Γ.K H v d ∧ SeqAt.shaped d = true := fun {w v} h r => by
    obtain ⟨h1, h2, h3⟩ := dat_rep h r
    exact ⟨h1, shaped_of h2 h3 (by decide)⟩
  cases w with
  | ref n =>
    simp only [datOf] at h
    cases e : getL st n with
    | none => rw [e] at h; cases h
    | some ws =>
      rw [e] at h
      cases e2 : W.dats 8 ws with
      | none => simp only [e2] at h; cases h
      | some ds =>
        simp only [e2] at h
        cases h
        obtain ⟨a, xs, rfl, h1, h2⟩ := getL_rep hs e r
        obtain ⟨x1, x2, x3⟩ := dats_rep e2 h2
        refine ⟨.lst h1 x1, shaped_of (n := 9) (by simpa [PyData.canLay0] using x2) (by simp only [PyData.depth]; omega) (by decide)⟩
  | non => exact key h r
  | bl b => exact key h r
  | int b => exact key h r
  | str b => exact key h r
  | tup ws => exact key h r
end
def wEq (x y : W) (st : Sto) : Res W := match datOf st x, datOf st y with | some d, some e => .ok (.bl (PyData.eqv d e)) st | _, _ => .err
def wNe (x y : W) (st : Sto) : Res W := match datOf st x, datOf st y with | some d, some e => .ok (.bl (!PyData.eqv d e)) st | _, _ => .err
def seqOf (st : Sto) : W → Option (List W)
  | .tup ws => some ws
  | .ref n => getL st n
  | _ => none
def wIn (x y : W) (st : Sto) : Res W := match datOf st x, (seqOf st y).bind (W.dats 8) with | some d, some es => .ok (.bl (es.any fun z => PyData.eqv z d)) st | _, _ => .err
def wNotIn (x y : W) (st : Sto) : Res W := match datOf st x, (seqOf st y).bind (W.dats 8) with | some d, some es => .ok (.bl (!es.any fun z => PyData.eqv z d)) st | _, _ => .err
def wIsN (x y : W) (st : Sto) : Res W := match y with | .non => .ok (.bl (match x with | .non => true | _ => false)) st | _ => .err
def wNotN (x y : W) (st : Sto) : Res W := match y with | .non => .ok (.bl (match x with | .non => false | _ => true)) st | _ => .err
def wAdd (x y : W) (st : Sto) : Res W := match x, y with
  | .int a, .int b => .ok (.int (a + b)) st
  | .tup a, .tup b => if a.length + b.length ≤ 1000000 then .ok (.tup (a ++ b)) st else .err
  | .str a, .str b => if a.length + b.length ≤ 1000000 then .ok (.str (a ++ b)) st else .err
  | .ref m, .ref n => match st.c[m]?, st.c[n]? with
    | some (.lst a), some (.lst b) => if a.length + b.length ≤ 1000000 then .ok (.ref st.c.length) (st.push (.lst (a ++ b))) else .err
    | _, _ => .err
  | _, _ => .err
def wSub (x y : W) (st : Sto) : Res W := match x, y with | .int a, .int b => .ok (.int (a - b)) st | _, _ => .err
def mulOk (a b : Int) : Bool := decide (a.natAbs.log2 + b.natAbs.log2 < 100000000)
theorem mulOk_ok {a b : Int} (h : mulOk a b = true) : CMulX a b := by
  have h2 : a.natAbs.log2 + b.natAbs.log2 < 100000000 := of_decide_eq_true h
  have e : ∀ x : Int, Builtin.Int.intBits x ≤ x.natAbs.log2 + 1 := fun x => by
    unfold Builtin.Int.intBits
    split
    · exact Nat.zero_le _
    · exact Nat.le_refl _
  have := e a
  have := e b
  unfold CMulX
  omega
def divOk (b : Int) : Bool := decide (0 < b) && decide (b.natAbs.log2 < 9000)
def wDiv (x y : W) (st : Sto) : Res W := match x, y with | .int a, .int b => if divOk b = true then .ok (.int (a / b)) st else .err | _, _ => .err
def wMod (x y : W) (st : Sto) : Res W := match x, y with | .int a, .int b => if 0 < b then .ok (.int (a % b)) st else .err | _, _ => .err
def wLt (x y : W) (st : Sto) : Res W := match x, y with | .int a, .int b => .ok (.bl (decide (a < b))) st | _, _ => .err
def wLe (x y : W) (st : Sto) : Res W := match x, y with | .int a, .int b => .ok (.bl (decide (a ≤ b))) st | _, _ => .err
def wGt (x y : W) (st : Sto) : Res W := match x, y with | .int a, .int b => .ok (.bl (decide (b < a))) st | _, _ => .err
def wGe (x y : W) (st : Sto) : Res W := match x, y with | .int a, .int b => .ok (.bl (decide (b ≤ a))) st | _, _ => .err
section
variable {X : Cx} {Γ : Gf} {Wx : WX}
theorem ok_eq (hK : X.K = Γ.K) : OpOk Γ (rEqD X.K) wEq := fun Wx μ σ H st wx wy x y Q hs rx ry h => by
  unfold wEq at h
  split at h
  · rename_i d e h1 h2
    rw [hK]
    obtain ⟨a1, a2⟩ := datOf_rep hs h1 rx
    obtain ⟨b1, b2⟩ := datOf_rep hs h2 ry
    exact ⟨d, e, a1, b1, a2, b2, h.here hs (.bl _)⟩
  · exact h.elim
theorem ok_ne (hK : X.K = Γ.K) : OpOk Γ (rNeD X.K) wNe := fun Wx μ σ H st wx wy x y Q hs rx ry h => by
  unfold wNe at h
  split at h
  · rename_i d e h1 h2
    rw [hK]
    obtain ⟨a1, a2⟩ := datOf_rep hs h1 rx
    obtain ⟨b1, b2⟩ := datOf_rep hs h2 ry
    exact ⟨d, e, a1, b1, a2, b2, h.here hs (.bl _)⟩
  · exact h.elim
def rInQ (K : PySem.W.Frag) (neg : Bool) : R2 := fun x y H Q => ∃ d ds, Dp K H x d ∧ (Dp K H y (.list ds) ∨ Dp K H y (.tuple ds)) ∧ SeqAt.shaped d = true ∧ SeqAt.shaped (.list ds) = true ∧ Q (.bl (if neg = true then !(ds.any fun z => PyData.eqv z d) else ds.any fun z => PyData.eqv z d)) H
theorem op_inQ (hu : X.A.units + 65 < cLine) : OpR X (compareOp .In) (rInQ X.K false) := by
  intro ps st σ H x y v u Q I rx ry want
  obtain ⟨d, ds, hd, he, sd, se, q⟩ := want
  have cl : PyData.canLayAll0 ds = true := SeqAt.canLay_of_shaped se
  obtain ⟨as, r1⟩ := Dp.reads I d x v hd rx
  rcases he with he | he
  · obtain ⟨bs, r2⟩ := Dp.reads I (.list ds) y u he ry
    exact SeqAt.in_list_reads r2 r1 cl (SeqAt.canLay_of_shaped sd) (room_in_shaped sd hu) ⟨.bl _, H, I, rfl, q⟩
  · obtain ⟨bs, r2⟩ := Dp.reads I (.tuple ds) y u he ry
    exact SeqAt.in_tuple_reads r2 r1 cl (SeqAt.canLay_of_shaped sd) (room_in_shaped sd hu) ⟨.bl _, H, I, rfl, q⟩
theorem op_notInQ (hu : X.A.units + 65 < cLine) : OpR X (compareOp .NotIn) (rInQ X.K true) := by
  intro ps st σ H x y v u Q I rx ry want
  obtain ⟨d, ds, hd, he, sd, se, q⟩ := want
  have cl : PyData.canLayAll0 ds = true := SeqAt.canLay_of_shaped se
  obtain ⟨as, r1⟩ := Dp.reads I d x v hd rx
  rcases he with he | he
  · obtain ⟨bs, r2⟩ := Dp.reads I (.list ds) y u he ry
    exact SeqAt.notIn_list_reads r2 r1 cl (SeqAt.canLay_of_shaped sd) (room_in_shaped sd hu) ⟨.bl _, H, I, rfl, q⟩
  · obtain ⟨bs, r2⟩ := Dp.reads I (.tuple ds) y u he ry
    exact SeqAt.notIn_tuple_reads r2 r1 cl (SeqAt.canLay_of_shaped sd) (room_in_shaped sd hu) ⟨.bl _, H, I, rfl, q⟩
theorem seqOf_rep {μ : List Addr} {H : Hp} {st : Sto} {w : W} {v : V} {ws : List W} (hs : Sim Γ μ st H) (h : seqOf st w = some ws) (r : Rep Γ.K μ H w v) : ∃ a xs, v = .ref a ∧ (SqL Γ.K H a xs ∨ SqT Γ.K H a xs) ∧ Reps Γ.K μ H ws xs := by
  cases w with
  | tup ws' => cases h; cases r with | tup a b => exact ⟨_, _, rfl, .inr a, b⟩
  | ref n => obtain ⟨a, xs, e, h1, h2⟩ := getL_rep hs h r; exact ⟨a, xs, e, .inl h1, h2⟩
  | _ => cases h
theorem inQ_rep {μ : List Addr} {H : Hp} {st : Sto} {w : W} {v : V} {es : List PyData} (hs : Sim Γ μ st H) (h : (seqOf st w).bind (W.dats 8) = some es) (r : Rep Γ.K μ H w v) : (Dp Γ.K H v (.list es) ∨ Dp Γ.K H v (.tuple es)) ∧ SeqAt.shaped (.list es) = true := by
  cases e : seqOf st w with
  | none => rw [e] at h; cases h
  | some ws =>
    rw [e] at h
    obtain ⟨a, xs, rfl, h1, h2⟩ := seqOf_rep hs e r
    obtain ⟨x1, x2, x3⟩ := dats_rep (n := 8) h h2
    refine ⟨?_, shaped_of (n := 9) (by simpa [PyData.canLay0] using x2) (by simp only [PyData.depth]; omega) (by decide)⟩
    rcases h1 with h1 | h1
    · exact .inl (.lst h1 x1)
    · exact .inr (.tup h1 x1)
theorem ok_in (hK : X.K = Γ.K) : OpOk Γ (rInQ X.K false) wIn := fun Wx μ σ H st wx wy x y Q hs rx ry h => by
  unfold wIn at h
  split at h
  · rename_i d e h1 h2
    rw [hK]
    obtain ⟨a1, a2⟩ := datOf_rep hs h1 rx
    obtain ⟨b1, b2⟩ := inQ_rep hs h2 ry
    exact ⟨d, e, a1, b1, a2, b2, h.here hs (.bl _)⟩
  · exact h.elim
theorem ok_notIn (hK : X.K = Γ.K) : OpOk Γ (rInQ X.K true) wNotIn := fun Wx μ σ H st wx wy x y Q hs rx ry h => by
  unfold wNotIn at h
  split at h
  · rename_i d e h1 h2
    rw [hK]
    obtain ⟨a1, a2⟩ := datOf_rep hs h1 rx
    obtain ⟨b1, b2⟩ := inQ_rep hs h2 ry
    exact ⟨d, e, a1, b1, a2, b2, h.here hs (.bl _)⟩
  · exact h.elim
theorem ok_isN : OpOk Γ (fun x y H Q => y = .non ∧ Q (.bl (decide (x = .non))) H) wIsN := fun Wx μ σ H st wx wy x y Q hs rx ry h => by
  unfold wIsN at h
  split at h
  · cases ry
    refine ⟨rfl, ?_⟩
    have q := h.here hs (.bl _)
    cases rx <;> exact q
  · exact h.elim
theorem ok_notN : OpOk Γ (fun x y H Q => y = .non ∧ Q (.bl (!decide (x = .non))) H) wNotN := fun Wx μ σ H st wx wy x y Q hs rx ry h => by
  unfold wNotN at h
  split at h
  · cases ry
    refine ⟨rfl, ?_⟩
    have q := h.here hs (.bl _)
    cases rx <;> exact q
  · exact h.elim
theorem ok_int {g : Int → Int → V} {C : Int → Int → Prop} {op : W → W → Sto → Res W} {f : Int → Int → W} (hf : ∀ i j K μ H, Rep K μ H (f i j) (g i j)) (h1 : ∀ i j st, (op (.int i) (.int j) st = .ok (f i j) st ∧ C i j) ∨ op (.int i) (.int j) st = .err)
    (h2 : ∀ x y st, (∃ i j, x = .int i ∧ y = .int j) ∨ op x y st = .err) : OpOk Γ (rI C g) op := fun Wx μ σ H st wx wy x y Q hs rx ry h => by
  rcases h2 wx wy st with ⟨i, j, rfl, rfl⟩ | e
  · rcases h1 i j st with ⟨e, c⟩ | e
    · rw [e] at h
      cases rx
      cases ry
      exact ⟨i, j, rfl, rfl, c, h.here hs (hf i j _ _ _)⟩
    · rw [e] at h; exact h.elim
  · rw [e] at h; exact h.elim
theorem ok_int0 {g : Int → Int → V} {op : W → W → Sto → Res W} {f : Int → Int → W} (hf : ∀ i j K μ H, Rep K μ H (f i j) (g i j)) (h1 : ∀ i j st, op (.int i) (.int j) st = .ok (f i j) st) (h2 : ∀ x y st, (∃ i j, x = .int i ∧ y = .int j) ∨ op x y st = .err) : OpOk Γ (rI0 g) op :=
  fun Wx μ σ H st wx wy x y Q hs rx ry h => by
  rcases h2 wx wy st with ⟨i, j, rfl, rfl⟩ | e
  · rw [h1 i j st] at h
    cases rx
    cases ry
    exact ⟨i, j, rfl, rfl, h.here hs (hf i j _ _ _)⟩
  · rw [e] at h; exact h.elim
local macro_rules | `(tactic| trivial) => `(tactic| (intro x y st; cases x <;> cases y <;> first | exact .inr rfl | exact .inl ⟨_, _, rfl, rfl⟩))
theorem ok_sub : OpOk Γ (rI0 fun i j => .int (i - j)) wSub := ok_int0 (fun _ _ _ _ _ => .int _) (fun _ _ _ => rfl) (by trivial)
theorem ok_lt : OpOk Γ (rI0 fun i j => .bl (decide (i < j))) wLt := ok_int0 (fun _ _ _ _ _ => .bl _) (fun _ _ _ => rfl) (by trivial)
theorem ok_le : OpOk Γ (rI0 fun i j => .bl (decide (i ≤ j))) wLe := ok_int0 (fun _ _ _ _ _ => .bl _) (fun _ _ _ => rfl) (by trivial)
theorem ok_gt : OpOk Γ (rI0 fun i j => .bl (decide (j < i))) wGt := ok_int0 (fun _ _ _ _ _ => .bl _) (fun _ _ _ => rfl) (by trivial)
theorem ok_ge : OpOk Γ (rI0 fun i j => .bl (decide (j ≤ i))) wGe := ok_int0 (fun _ _ _ _ _ => .bl _) (fun _ _ _ => rfl) (by trivial)
theorem ok_div : OpOk Γ (rI CDivW fun i j => .int (i / j)) wDiv := ok_int (fun _ _ _ _ _ => .int _) (fun i j st => by
  by_cases h : divOk j = true
  · refine .inl ⟨if_pos h, ?_⟩
    unfold divOk at h
    rw [Bool.and_eq_true] at h
    exact ⟨of_decide_eq_true h.1, of_decide_eq_true h.2⟩
  · exact .inr (if_neg h)) (by trivial)
theorem ok_mod : OpOk Γ (rI (fun _ j => 0 < j) fun i j => .int (i % j)) wMod := ok_int (fun _ _ _ _ _ => .int _) (fun i j st => by
  by_cases h : 0 < j
  · exact .inl ⟨if_pos h, h⟩
  · exact .inr (if_neg h)) (by trivial)
theorem le_line {n : Nat} (h : n ≤ 1000000) : n ≤ sizeLine := by rw [sizeLine_eq]; omega
abbrev rAddQ (K : PySem.W.Frag) : R2 := fun x y H Q => (rI0 (fun i j => .int (i + j)) x y H Q) ∨ (rCatA K x y H Q) ∨ ((∃ i j, x = .str i ∧ y = .str j ∧ i.length + j.length ≤ sizeLine ∧ Q (.str (i ++ j)) H) ∨ rCat x y H Q)
theorem op_addQ : OpR X (binaryOp .Add) (rAddQ X.K) := .or op_add (.or op_catA (.or op_add_str op_cat))
theorem ok_add (hK : X.K = Γ.K) : OpOk Γ (rAddQ X.K) wAdd := fun Wx μ σ H st wx wy x y Q hs rx ry h => by
  rw [hK]
  cases wx with
  | int a =>
    cases wy with
    | int b => cases rx; cases ry; exact .inl ⟨a, b, rfl, rfl, h.here hs (.int _)⟩
    | _ => exact h.elim
  | tup a =>
    cases wy with
    | tup b =>
      simp only [wAdd] at h
      split at h
      · rename_i hlen
        cases rx with
        | tup q1 q2 =>
          cases ry with
          | tup p1 p2 =>
            rename_i aa xs bb ys
            refine .inr (.inl ⟨_, _, _, _, rfl, rfl, q1, p1, by rw [← q2.length, ← p2.length]; exact le_line hlen, fun e => ?_, fun _ e => ?_, fun _ _ p hp => ?_⟩)
            · subst e
              cases q2
              exact h.here hs (.tup p1 (by simpa using p2))
            · subst e
              cases p2
              exact h.here hs (.tup q1 (by simpa using q2))
            · have E : Ext Γ.K μ μ H (upd H p (.tup (xs ++ ys))) := ext_upd (.inl hp)
              exact h _ _ _ E (hs.other hp) (.tup (.inl (.inl upd_same)) ((q2.append p2).mono E))
      · exact h.elim
    | _ => exact h.elim
  | str a =>
    cases wy with
    | str b =>
      simp only [wAdd] at h
      split at h
      · rename_i hlen
        cases rx; cases ry
        exact .inr (.inr (.inl ⟨a, b, rfl, rfl, le_line hlen, h.here hs (.str _)⟩))
      · exact h.elim
    | _ => exact h.elim
  | ref m =>
    cases wy with
    | ref n =>
      simp only [wAdd] at h
      split at h
      · rename_i a b e1 e2
        split at h
        · rename_i hlen
          cases rx with
          | ref hm =>
            cases ry with
            | ref hn =>
              obtain ⟨xs, q1, q2⟩ := hs.cell m _ _ e1 hm
              obtain ⟨ys, p1, p2⟩ := hs.cell n _ _ e2 hn
              refine .inr (.inr (.inr ⟨_, _, xs, ys, rfl, rfl, q1, p1, by rw [← q2.length, ← p2.length]; exact le_line hlen, fun p hp => ?_⟩))
              have E : Ext Γ.K μ (μ ++ [p]) H (upd H p (.lst (xs ++ ys))) := ext_new hp
              have r := q2.append p2
              exact h _ _ _ E (hs.new hp ⟨_, upd_same, r.mono E⟩ (r.low (Nat.le_of_eq hs.len))) (.ref (by rw [← hs.len]; simp))
        · exact h.elim
      · exact h.elim
    | _ => exact h.elim
  | _ => exact h.elim
def wIx (x y : W) (st : Sto) : Res W := match y with
  | .int i => match seqOf st x with
    | some ws => match atI ws i with | some w => .ok w st | none => .err
    | none => .err
  | _ => .err
theorem atI_rep {μ : List Addr} {H : Hp} {K : PySem.W.Frag} {ws : List W} {xs : List V} {i : Int} {w : W} (r : Reps K μ H ws xs) (h : atI ws i = some w) : ∃ v, atI xs i = some v ∧ Rep K μ H w v := by
  unfold atI at h ⊢
  rw [← r.length]
  cases e : ixN ws.length i with
  | none => rw [e] at h; cases h
  | some j => rw [e] at h; exact r.get h
theorem ok_ix (hK : X.K = Γ.K) : OpOk Γ (rIx X.K) wIx := fun Wx μ σ H st wx wy x y Q hs rx ry h => by
  rw [hK]
  unfold wIx at h
  split at h
  · split at h
    · rename_i i _ ws e
      split at h
      · rename_i w ew
        cases ry
        obtain ⟨a, xs, rfl, h1, h2⟩ := seqOf_rep hs e rx
        obtain ⟨v, z1, z2⟩ := atI_rep h2 ew
        rcases h1 with h1 | h1
        · exact .inl ⟨a, xs, i, v, rfl, rfl, h1, z1, h.here hs z2⟩
        · exact .inr (.inl ⟨a, xs, i, v, rfl, rfl, h1, z1, h.here hs z2⟩)
      · exact h.elim
    · exact h.elim
  · exact h.elim
theorem qe_ix {a b : Expr} {ea eb : Ev} {pos : Pos} (hK : X.K = Γ.K) (ha : PE X a (tE Γ Wx ea)) (hb : PE X b (tE Γ Wx eb)) (hs : PlainIx b := by exact fun _ _ => rfl) : PE X (.Subscript a b pos) (tE Γ Wx (eBin wIx ea eb)) :=
  PE_imp (pe_ix ix_seq ha hb hs) fun σ H Q h => tOp_run (ok_ix hK) σ H Q h
end
end RB
namespace RB
open PySem PySem.Spec PyProof.Rows L2
def fLen (ws : List W) (st : Sto) : Res W := match ws with
  | [.str z] => if z.length ≤ 1000000 then .ok (.int (z.length : Nat)) st else .err
  | [w] => match seqOf st w with | some xs => .ok (.int (xs.length : Nat)) st | none => .err
  | _ => .err
def fInt (ws : List W) (st : Sto) : Res W := match ws with | [.int i] => .ok (.int i) st | [.bl b] => .ok (.int (if b then 1 else 0)) st | _ => .err
def bools : List W → Option (List Bool)
  | [] => some []
  | .bl b :: r => (bools r).map (b :: ·)
  | _ :: _ => none
def intsOf : List W → Option (List Int)
  | [] => some []
  | .int b :: r => (intsOf r).map (b :: ·)
  | _ :: _ => none
def fAll (ws : List W) (st : Sto) : Res W := match ws with | [.ref n] => (match (getL st n).bind bools with | some bs => .ok (.bl (bs.all id)) st | none => .err) | _ => .err
def fMin2 (ws : List W) (st : Sto) : Res W := match ws with | [.int i, .int j] => .ok (.int (if j < i then j else i)) st | _ => .err
def fTuple (ws : List W) (st : Sto) : Res W := match ws with | [w] => (match seqOf st w with | some xs => .ok (.tup xs) st | none => .err) | _ => .err
def fList (ws : List W) (st : Sto) : Res W := match ws with | [w] => (match seqOf st w with | some xs => .ok (.ref st.c.length) (st.push (.lst xs)) | none => .err) | _ => .err
def fGcd (ws : List W) (st : Sto) : Res W := match ws with | [.int i, .int j] => .ok (.int ((Nat.gcd i.natAbs j.natAbs : Nat) : Int)) st | _ => .err
section
variable {X : Cx} {Γ : Gf} {Wx : WX}
theorem bools_rep {K : PySem.W.Frag} {μ : List Addr} {H : Hp} : ∀ {ws : List W} {xs : List V} {bs : List Bool}, bools ws = some bs → Reps K μ H ws xs → xs = bs.map V.bl
  | [], _, bs, h, .nil => by cases h; rfl
  | .bl b :: r, _, bs, h, .cons a t => by
    simp only [bools] at h
    cases e : bools r with
    | none => rw [e] at h; cases h
    | some cs => rw [e] at h; cases h; cases a; rw [bools_rep e t]; rfl
  | .non :: _, _, _, h, _ => by cases h
  | .int _ :: _, _, _, h, _ => by cases h
  | .str _ :: _, _, _, h, _ => by cases h
  | .tup _ :: _, _, _, h, _ => by cases h
  | .ref _ :: _, _, _, h, _ => by cases h
theorem ints_rep {K : PySem.W.Frag} {μ : List Addr} {H : Hp} : ∀ {ws : List W} {xs : List V} {bs : List Int}, intsOf ws = some bs → Reps K μ H ws xs → xs = bs.map V.int
  | [], _, bs, h, .nil => by cases h; rfl
  | .int b :: r, _, bs, h, .cons a t => by
    simp only [intsOf] at h
    cases e : intsOf r with
    | none => rw [e] at h; cases h
    | some cs => rw [e] at h; cases h; cases a; rw [ints_rep e t]; rfl
  | .non :: _, _, _, h, _ => by cases h
  | .bl _ :: _, _, _, h, _ => by cases h
  | .str _ :: _, _, _, h, _ => by cases h
  | .tup _ :: _, _, _, h, _ => by cases h
  | .ref _ :: _, _, _, h, _ => by cases h
theorem ok_len (hK : X.K = Γ.K) : CallOk Γ (fun xs H Q => ∃ x n, xs = [x] ∧ LenV X.K x H n ∧ Q (.int n) H) fLen := fun Wx μ σ H st ws xs Q hs hr h => by
  rw [hK]
  cases hr with
  | nil => exact h.elim
  | @cons w v ws vs r t =>
    cases t with
    | cons _ _ => cases w <;> exact h.elim
    | nil =>
      have other : ∀ ys, seqOf st w = some ys → Post Γ Wx (Rep Γ.K) μ σ H Q (.ok (.int (ys.length : Nat)) st) → ∃ x n, [v] = [x] ∧ LenV Γ.K x H n ∧ Q (.int n) H := fun ys e h => by
        obtain ⟨a, zs, rfl, h1, h2⟩ := seqOf_rep hs e r
        refine ⟨_, ys.length, rfl, ?_, h.here hs (.int _)⟩
        rcases h1 with h1 | h1
        · exact .inl ⟨zs, h1, h2.length⟩
        · exact .inr ⟨zs, h1, h2.length⟩
      cases w with
      | str z =>
        simp only [fLen] at h
        split at h
        · rename_i hz
          cases r
          exact ⟨_, z.length, rfl, ⟨le_line hz, rfl⟩, h.here hs (.int _)⟩
        · exact h.elim
      | tup ys => exact other ys rfl h
      | ref n =>
        simp only [fLen] at h
        cases e : seqOf st (.ref n) with
        | none => rw [e] at h; exact h.elim
        | some ys => rw [e] at h; exact other ys e h
      | _ => exact h.elim
theorem ok_fint : CallOk Γ (fun xs H Q => (∃ i, xs = [.int i] ∧ Q (.int i) H) ∨ ∃ k, xs = [.bl k] ∧ Q (.int (if k then 1 else 0)) H) fInt := fun Wx μ σ H st ws xs Q hs hr h => by
  unfold fInt at h
  split at h
  · cases hr with
    | cons r t => cases r; cases t; exact .inl ⟨_, rfl, h.here hs (.int _)⟩
  · cases hr with
    | cons r t => cases r; cases t; exact .inr ⟨_, rfl, h.here hs (.int _)⟩
  · exact h.elim
theorem ok_all (hK : X.K = Γ.K) : CallOk Γ (rAll X.K) fAll := fun Wx μ σ H st ws xs Q hs hr h => by
  rw [hK]
  unfold fAll at h
  split at h
  · rename_i n
    split at h
    · rename_i bs e
      cases hr with
      | cons r t =>
        cases t
        cases e1 : getL st n with
        | none => rw [e1] at e; cases e
        | some ws =>
          rw [e1] at e
          obtain ⟨a, zs, rfl, h1, h2⟩ := getL_rep hs e1 r
          have q := bools_rep e h2
          subst q
          exact ⟨a, bs, rfl, h1, h.here hs (.bl _)⟩
    · exact h.elim
  · exact h.elim
theorem ok_gcd : CallOk Γ rGcd fGcd := fun Wx μ σ H st ws xs Q hs hr h => by
  unfold fGcd at h
  split at h
  · cases hr with
    | cons r t => cases r; cases t with
      | cons r2 t2 => cases r2; cases t2; exact ⟨_, _, rfl, h.here hs (.int _)⟩
  · exact h.elim
theorem ok_tuple (hK : X.K = Γ.K) : CallOk Γ (fun xs H Q => ∃ p ys, xs = [.ref p] ∧ ((SqL X.K H p ys ∧ ∀ l, H l = none → Q (.ref l) (upd H l (.tup ys))) ∨ (SqT X.K H p ys ∧ Q (.ref p) H))) fTuple := fun Wx μ σ H st ws xs Q hs hr h => by
  rw [hK]
  unfold fTuple at h
  split at h
  · rename_i w
    split at h
    · rename_i ys e
      cases hr with
      | cons r t =>
        cases t
        obtain ⟨a, zs, rfl, h1, h2⟩ := seqOf_rep hs e r
        refine ⟨a, zs, rfl, ?_⟩
        rcases h1 with h1 | h1
        · refine .inl ⟨h1, fun p hp => ?_⟩
          have E : Ext Γ.K μ μ H (upd H p (.tup zs)) := ext_upd (.inl hp)
          exact h _ _ _ E (hs.other hp) (.tup (.inl (.inl upd_same)) (h2.mono E))
        · exact .inr ⟨h1, h.here hs (.tup h1 h2)⟩
    · exact h.elim
  · exact h.elim
theorem ok_list (hK : X.K = Γ.K) : CallOk Γ (fun xs H Q => ∃ p ys, xs = [.ref p] ∧ (SqL X.K H p ys ∨ SqT X.K H p ys) ∧ ∀ l, H l = none → Q (.ref l) (upd H l (.lst ys))) fList := fun Wx μ σ H st ws xs Q hs hr h => by
  rw [hK]
  unfold fList at h
  split at h
  · rename_i w
    split at h
    · rename_i ys e
      cases hr with
      | cons r t =>
        cases t
        obtain ⟨a, zs, rfl, h1, h2⟩ := seqOf_rep hs e r
        refine ⟨a, zs, rfl, h1, fun p hp => ?_⟩
        have E : Ext Γ.K μ (μ ++ [p]) H (upd H p (.lst zs)) := ext_new hp
        exact h _ _ _ E (hs.new hp ⟨_, upd_same, h2.mono E⟩ (h2.low (Nat.le_of_eq hs.len))) (.ref (by rw [← hs.len]; simp))
    · exact h.elim
  · exact h.elim
theorem qe_blt {id : String} {r : List V → Hp → VK → Prop} {F : List W → Sto → Res W} {x : Str} {p pos : Pos} {e : Expr} {es : List Expr} {eas : Evs} (hc : CallR X (.builtin id) r) (hF : CallOk Γ r F) (hg : Gl X x) (hm : X.mg x = none) (hv : bootBuiltins x = some (.builtin id)) (ha : PA X (e :: es) (tA Γ Wx eas))
    (hn : x ≠ "__name__" := by decide) (hd : (x == ("__debug__" : Str)) = false := by decide) (he : starEach (e :: es) X.env = (false, eval e X.env) :: starEach es X.env := by rfl) (hpl : (backTo pos (starEach es X.env)).any (·.1) = false := by rfl) : PE X (.Call (.Name x p) (e :: es) [] pos) (tE Γ Wx (eB F eas)) :=
  PE_imp (pe_callB hc hg hm hv ha hn hd he hpl) fun σ H Q h => tCB_run hF σ H Q h
theorem qe_typ {T : String} {r : List V → Hp → VK → Prop} {F : List W → Sto → Res W} {x : Str} {p pos : Pos} {e : Expr} {es : List Expr} {eas : Evs} (hc : CallR X (.type T) r) (hF : CallOk Γ r F) (hg : Gl X x) (hm : X.mg x = none) (hv : bootBuiltins x = some (.type T)) (ha : PA X (e :: es) (tA Γ Wx eas))
    (hn : x ≠ "__name__" := by decide) (hd : (x == ("__debug__" : Str)) = false := by decide) (he : starEach (e :: es) X.env = (false, eval e X.env) :: starEach es X.env := by rfl) (hpl : (backTo pos (starEach es X.env)).any (·.1) = false := by rfl) : PE X (.Call (.Name x p) (e :: es) [] pos) (tE Γ Wx (eB F eas)) :=
  PE_imp (pe_callTy hc hg hm hv ha hn hd he hpl) fun σ H Q h => tCB_run hF σ H Q h
theorem qe_bfun {id : String} {r : List V → Hp → VK → Prop} {F : List W → Sto → Res W} {x : Str} {p pos : Pos} {e : Expr} {es : List Expr} {eas : Evs} (hc : CallR X (.builtin id) r) (hF : CallOk Γ r F) (hg : Gl X x) (hm : X.mg x = some (.builtin id)) (ha : PA X (e :: es) (tA Γ Wx eas))
    (hd : (x == ("__debug__" : Str)) = false := by decide) (he : starEach (e :: es) X.env = (false, eval e X.env) :: starEach es X.env := by rfl) (hpl : (backTo pos (starEach es X.env)).any (·.1) = false := by rfl) : PE X (.Call (.Name x p) (e :: es) [] pos) (tE Γ Wx (eB F eas)) :=
  PE_imp (pe_callBfun hc hg hm ha hd he hpl) fun σ H Q h => tCB_run hF σ H Q h
inductive Tn where
  | non | bl | int | str | tup | lst | cls (c : Nat)
def Tn.val (Γ : Gm) : Tn → Value
  | .non => .type "NoneType"
  | .bl => .type "bool"
  | .int => .type "int"
  | .str => .type "str"
  | .tup => .type "tuple"
  | .lst => .type "list"
  | .cls c => .ref (Γ.cl c)
def tnOf (st : Sto) : W → Option Tn
  | .non => some .non
  | .bl _ => some .bl
  | .int _ => some .int
  | .str _ => some .str
  | .tup _ => some .tup
  | .ref n => match st.c[n]? with
    | some (.lst _) => some .lst
    | some (.scr _) => some .lst
    | some (.ins c _) => some (.cls c)
    | some (.dct _) => none
    | none => none
end
end RB
namespace RB
open PySem PySem.Spec PyProof.Rows L2
structure ClsI (K : PySem.W.Frag) (C : Addr) : Prop where
  cl : Cls K C
  ha : PySem.W.findIn K (.ref C) "__class__" = some (some (.builtin "object.__class__"))
  hn : PySem.W.specialIn K (.builtin "object.__class__") "__get__" = some (some (.builtin "getset_descriptor.__get__"))
  ht : PySem.W.takesIn K (.builtin "object.__class__") = some true
  hm : PySem.W.mroIn K C (.type "object") = some true
def Ans (Γ : Gm) (Ts : List Tn) (ans : Tn → Option Bool) : Prop := ∀ t b, ans t = some b → PySem.W.kitAny Γ.K (t.val Γ) (Ts.map (Tn.val Γ)) = some b
def eIsi (ans : Tn → Option Bool) (a : Ev) : Ev := fun l st => (a l st).bind fun w st1 => match (tnOf st1 w).bind ans with | some b => .ok (.bl b) st1 | none => .err
section
variable {X : Cx} {Γ : Gf} {Wx : WX} {e a b o : Expr} {es : List Expr} {ea eb eo : Ev} {eas : Evs}
theorem tnOf_rep {μ : List Addr} {H : Hp} {st : Sto} {w : W} {v : V} {t : Tn} (hc : ∀ c, t = .cls c → ClsI Γ.K (Γ.cl c)) (hs : Sim Γ μ st H) (h : tnOf st w = some t) (r : Rep Γ.K μ H w v) : TyX Γ.K H v (t.val Γ.toGm) := by
  cases r with
  | non => cases h; exact .base .non
  | bl b => cases h; exact .base (.bl b)
  | int i => cases h; exact .base (.int i)
  | str x => cases h; exact .base (.str x)
  | tup q _ =>
    cases h
    rcases q with (q | ⟨ob, q⟩) | ⟨ob, its, n, q1, q2, _⟩
    · exact .base (.tup q)
    · exact .fTuple q
    · exact .kTuple q1 q2
  | ref hm =>
    rename_i n a
    simp only [tnOf] at h
    split at h
    · rename_i ws ec
      cases h
      obtain ⟨xs, q1, q2⟩ := hs.cell n _ _ ec hm
      exact .base (.lst q1)
    · rename_i ws ec
      cases h
      obtain ⟨xs, q1 | ⟨ob, q1⟩, q2⟩ := hs.cell n _ _ ec hm
      · obtain ⟨ob, its, k, z1, z2, _⟩ := q1
        exact .kList z1 z2
      · exact .base (.frz q1)
    · rename_i c fs ec
      cases h
      obtain ⟨dx, gs, q1, q2⟩ := hs.cell n _ _ ec hm
      have I := hc c rfl
      exact .base (.ins q1 I.cl I.ha I.hn I.ht I.hm)
    · cases h
    · cases h
def AllI (Γ : Gm) (ans : Tn → Option Bool) : Prop := ∀ c b, ans (.cls c) = some b → ClsI Γ.K (Γ.cl c)
theorem qe_isi1 {T : Tn} {ans : Tn → Option Bool} {te : Expr} {v : V} {p pos : Pos} (hA : AllI Γ.toGm ans) (hK : X.K = Γ.K) (hg : Gl X "isinstance") (hm : X.mg "isinstance" = none) (ha : PE X a (tE Γ Wx ea)) (hT : PE X te (tC v)) (hv : ClsV v (T.val Γ.toGm)) (hans : Ans Γ.toGm [T] ans)
    (he : starEach (a :: [te]) X.env = (false, eval a X.env) :: starEach [te] X.env := by rfl) (he2 : starEach (te :: []) X.env = (false, eval te X.env) :: starEach [] X.env := by rfl) (hpl : (backTo pos (starEach [te] X.env)).any (·.1) = false := by rfl) : PE X (.Call (.Name "isinstance" p) [a, te] [] pos) (tE Γ Wx (eIsi ans ea)) :=
  PE_imp (pe_callB call_isi hg hm (by decide +kernel) (pa_cons ha (pa_cons hT pa_nil he2) he) (by decide) (by decide) he hpl) fun σ H Q ⟨μ, l, st, hs, hl, h⟩ => tG_bind hs hl h _ fun w st1 μ1 H1 x e1 s1 r1 h1 => by
    split at h1
    · rename_i b eb
      cases et : tnOf st1 w with
      | none => rw [et] at eb; cases eb
      | some t =>
        rw [et] at eb
        have k := hans t b eb
        simp only [List.map_cons, List.map_nil, PySem.W.kitAny] at k
        have k2 : PySem.W.kitOne Γ.K (t.val Γ.toGm) (T.val Γ.toGm) = some b := by
          cases q : PySem.W.kitOne Γ.K (t.val Γ.toGm) (T.val Γ.toGm) with
          | none => rw [q] at k; cases k
          | some c => rw [q] at k; cases c <;> exact k
        rw [hK]
        exact ⟨x, v, _, _, b, rfl, hv, tnOf_rep (fun c hc => hA c b (hc ▸ eb)) s1 et r1, k2, h1.here s1 (.bl b)⟩
    · exact h1.elim
theorem qe_isi2 {T1 T2 : Tn} {ans : Tn → Option Bool} {t1 t2 : Expr} {v1 v2 : V} {p pos tpos : Pos} {x1} (hA : AllI Γ.toGm ans) (hK : X.K = Γ.K) (hg : Gl X "isinstance") (hm : X.mg "isinstance" = none) (ha : PE X a (tE Γ Wx ea)) (hT1 : PE X t1 (tC v1)) (hv1 : ClsV v1 (T1.val Γ.toGm)) (hT2 : PE X t2 (tC v2)) (hv2 : ClsV v2 (T2.val Γ.toGm)) (hans : Ans Γ.toGm [T1, T2] ans)
    (he : starEach (a :: [.Tuple [t1, t2] x1 tpos]) X.env = (false, eval a X.env) :: starEach [.Tuple [t1, t2] x1 tpos] X.env := by rfl) (he2 : starEach (.Tuple [t1, t2] x1 tpos :: []) X.env = (false, eval (.Tuple [t1, t2] x1 tpos) X.env) :: starEach [] X.env := by rfl)
    (hs1 : starEach (t1 :: [t2]) X.env = (false, eval t1 X.env) :: starEach [t2] X.env := by rfl) (hs2 : starEach (t2 :: []) X.env = (false, eval t2 X.env) :: starEach [] X.env := by rfl)
    (hpl : (backTo pos (starEach [.Tuple [t1, t2] x1 tpos] X.env)).any (·.1) = false := by rfl) : PE X (.Call (.Name "isinstance" p) [a, .Tuple [t1, t2] x1 tpos] [] pos) (tE Γ Wx (eIsi ans ea)) :=
  PE_imp (pe_callB call_isiT hg hm (by decide +kernel) (pa_cons ha (pa_cons (pe_tup (pa_cons hT1 (pa_cons hT2 pa_nil hs2) hs1)) pa_nil he2) he) (by decide) (by decide) he hpl) fun σ H Q ⟨μ, l, st, hs, hl, h⟩ => tG_bind hs hl h _ fun w st1 μ1 H1 x e1 s1 r1 h1 => by
    refine ⟨le1000 (by simp), fun q hq => ?_⟩
    split at h1
    · rename_i b eb
      cases et : tnOf st1 w with
      | none => rw [et] at eb; cases eb
      | some t =>
        rw [et] at eb
        have E : Ext Γ.K μ1 μ1 H1 (upd H1 q (.tup [v1, v2])) := ext_upd (.inl hq)
        have s2 := s1.other (o := .tup [v1, v2]) hq
        rw [hK]
        exact ⟨x, q, [v1, v2], _, _, b, rfl, upd_same, .cons hv1 (.cons hv2 .nil), tnOf_rep (fun c hc => hA c b (hc ▸ eb)) s2 et (r1.mono E), hans t b eb, h1 _ _ _ E s2 (.bl b)⟩
    · exact h1.elim
abbrev Po := Lo → Sto → Res (Option Int)
def poNone : Po := fun _ st => .ok none st
def poSome (a : Ev) : Po := fun l st => (a l st).bind fun w st1 => match w with | .int i => .ok (some i) st1 | _ => .err
def cutW {α : Type} (xs : List α) (lo hi : Option Int) : List α := (xs.drop (HT.sIx xs.length 0 lo)).take (HT.sIx xs.length xs.length hi - HT.sIx xs.length 0 lo)
def wSl (x : W) (lo hi : Option Int) (st : Sto) : Res W := match x with
  | .tup ws => .ok (.tup (cutW ws lo hi)) st
  | .ref n => match getL st n with | some ws => .ok (.ref st.c.length) (st.push (.lst (cutW ws lo hi))) | none => .err
  | _ => .err
def eSl (a : Ev) (lo hi : Po) : Ev := fun l st => (a l st).bind fun x st1 => (lo l st1).bind fun i st2 => (hi l st2).bind fun j st3 => wSl x i j st3
abbrev tP (Γ : Gf) (Wx : WX) (f : Po) : TO := fun σ H Q => tG Γ Wx (fun _ _ a b => a = b) f σ H Q
theorem PO_imp {e : Option Expr} {t t' : TO} (h : PO X e t) (k : ∀ σ H Q, t' σ H Q → t σ H Q) : PO X e t' := ⟨fun pins s σ H Q I q => h.run pins s σ H Q I (k _ _ _ q)⟩
theorem qo_none : PO X none (tP Γ Wx poNone) := PO_imp po_none fun σ H Q ⟨μ, l, st, hs, hl, h⟩ => h.here hs rfl
theorem qo_some (ha : PE X a (tE Γ Wx ea)) : PO X (some a) (tP Γ Wx (poSome ea)) := PO_imp (po_some ha) fun σ H Q ⟨μ, l, st, hs, hl, h⟩ => tG_bind hs hl h _ fun w st1 μ1 H1 v e1 s1 r1 h1 => by
  cases w with
  | int i => cases r1; exact ⟨i, rfl, h1.here s1 rfl⟩
  | _ => exact h1.elim
theorem cut_rep {μ : List Addr} {H : Hp} {K : PySem.W.Frag} {ws : List W} {xs : List V} (r : Reps K μ H ws xs) (lo hi : Option Int) : Reps K μ H (cutW ws lo hi) (cutV xs lo hi) := by
  unfold cutW cutV
  rw [r.length]
  exact (r.drop _).take _
theorem cutW_whole {ws : List W} {lo hi : Option Int} (h1 : HT.sIx ws.length 0 lo = 0) (h2 : HT.sIx ws.length ws.length hi = ws.length) : cutW ws lo hi = ws := by
  unfold cutW
  rw [h1, h2]
  simp
theorem qe_sl {lo hi : Option Expr} {pl ph : Po} {pos p2 : Pos} (hK : X.K = Γ.K) (ha : PE X a (tE Γ Wx ea)) (hl : PO X lo (tP Γ Wx pl)) (hh : PO X hi (tP Γ Wx ph)) : PE X (.Subscript a (.Slice lo hi none p2) pos) (tE Γ Wx (eSl ea pl ph)) :=
  PE_imp (pe_slice (SlR.or sl_tupA sl_list) ha hl hh) fun σ H Q ⟨μ, l, st, hs, hl, h⟩ => tG_bind hs hl h _ fun w st1 μ1 H1 v e1 s1 r1 h1 => tG_bind s1 (hl.mono e1) h1 _ fun i st2 μ2 H2 i' e2 s2 r2 h2 => tG_bind s2 (hl.mono (e1.trans e2)) h2 _ fun j st3 μ3 H3 j' e3 s3 r3 h3 => by
    subst r2 r3
    have r1 := r1.mono (e2.trans e3)
    rw [hK]
    cases w with
    | tup ws =>
      cases r1 with
      | tup q1 q2 =>
        rename_i aa xs
        refine .inl ⟨_, _, rfl, q1, fun ⟨z1, z2⟩ => ?_, fun _ p hp => ?_⟩
        · rw [← q2.length] at z1 z2
          have h3 : Post Γ Wx (Rep Γ.K) μ3 σ H3 Q (.ok (.tup (cutW ws i j)) st3) := h3
          rw [cutW_whole z1 z2] at h3
          exact h3.here s3 (.tup q1 q2)
        · have E : Ext Γ.K μ3 μ3 H3 (upd H3 p (.tup (cutV xs i j))) := ext_upd (.inl hp)
          exact h3 _ _ _ E (s3.other hp) (.tup (.inl (.inl upd_same)) ((cut_rep q2 i j).mono E))
    | ref n =>
      simp only [wSl] at h3
      cases e4 : getL st3 n with
      | none => rw [e4] at h3; exact h3.elim
      | some ws =>
        rw [e4] at h3
        obtain ⟨aa, xs, rfl, q1, q2⟩ := getL_rep s3 e4 r1
        refine .inr ⟨aa, xs, rfl, q1, fun p hp => ?_⟩
        have E : Ext Γ.K μ3 (μ3 ++ [p]) H3 (upd H3 p (.lst (cutV xs i j))) := ext_new hp
        have rr := cut_rep q2 i j
        exact h3 _ _ _ E (s3.new hp ⟨_, upd_same, rr.mono E⟩ (rr.low (Nat.le_of_eq s3.len))) (.ref (by rw [← s3.len]; simp))
    | _ => exact h3.elim
def MtOk (Γ : Gf) (r : V → List V → Hp → VK → Prop) (F : W → List W → Sto → Res W) : Prop := ∀ (Wx : WX) μ (σ : L2.St) H st w x ws xs (Q : VK), Sim Γ μ st H → Rep Γ.K μ H w x → Reps Γ.K μ H ws xs → Post Γ Wx (Rep Γ.K) μ σ H Q (F w ws st) → (∃ n us, w = .ref n ∧ st.c[n]? = some (.lst us)) ∧ r x xs H Q
def isL (st : Sto) (w : W) : Bool := match w with | .ref n => (match st.c[n]? with | some (.lst _) => true | _ => false) | _ => false
theorem isL_at {st : Sto} {w : W} (h : isL st w = true) : ∃ n us, w = .ref n ∧ st.c[n]? = some (.lst us) := by
  unfold isL at h
  split at h
  · rename_i n
    split at h
    · rename_i us e
      exact ⟨n, us, rfl, e⟩
    · cases h
  · cases h
def eMt (F : W → List W → Sto → Res W) (o : Ev) (a : Evs) : Ev := fun l st => (o l st).bind fun x st1 => if isL st1 x = true then ((a l st1).bind fun ws st2 => F x ws st2) else .err
def fAppend (w : W) (ws : List W) (st : Sto) : Res W := match w, ws with
  | .ref n, [y] => match st.c[n]? with | some (.lst us) => if us.length < 1000000 then .ok .non (st.put n (.lst (us ++ [y])) (W.low n y)) else .err | _ => .err
  | _, _ => .err
theorem lows_append {n : Nat} : ∀ {a b : List W}, W.lows n a = true → W.lows n b = true → W.lows n (a ++ b) = true
  | [], _, _, h => h
  | x :: r, b, h, h2 => by
    simp [W.lows] at h
    simp [W.lows, h.1]
    exact lows_append h.2 h2
theorem lows_set {n : Nat} {v : W} (hv : W.low n v = true) : ∀ {a : List W} (k : Nat), W.lows n a = true → W.lows n (a.set k v) = true
  | [], _, _ => rfl
  | x :: r, 0, h => by simp [W.lows] at h; simp [W.lows, hv, h.2]
  | x :: r, k + 1, h => by
    simp [W.lows] at h
    simp [W.lows, h.1]
    exact lows_set hv k h.2
theorem ext_wr {K : PySem.W.Frag} {μ : List Addr} {H : Hp} {p : Addr} {xs : List V} {o : HO} (hp : H p = some (.lst xs)) : Ext K μ μ H (upd H p o) := ext_upd (.inr ⟨xs, hp⟩)
theorem mok_append : MtOk Γ rAppend fAppend := fun Wx μ σ H st w x ws xs Q hs hr hrs h => by
  unfold fAppend at h
  split at h
  · rename_i n y
    split at h
    · rename_i us ec
      split at h
      · rename_i hlen
        refine ⟨⟨n, us, rfl, ec⟩, ?_⟩
        cases hr with
        | ref hm =>
          cases hrs with
          | @cons _ yv _ _ ry t =>
            cases t
            obtain ⟨vs, q1, q2⟩ := hs.cell n _ _ ec hm
            refine ⟨_, vs, _, rfl, rfl, q1, by rw [← q2.length]; exact Nat.lt_of_lt_of_le hlen (le_line (Nat.le_refl _)), ?_⟩
            have E := ext_wr (K := Γ.K) (μ := μ) (o := .lst (vs ++ [yv])) q1
            have rr := q2.snoc ry
            refine h _ _ _ E (hs.write ec hm q1 rfl rfl ⟨_, upd_same, rr.mono E⟩ fun b m hm q => ?_) .non
            exact lows_append q (by simp [W.lows]; exact W.low_mono hm b)
      · exact h.elim
    · exact h.elim
  · exact h.elim
theorem qe_mt {id : String} {name : Str} {r : V → List V → Hp → VK → Prop} {F : W → List W → Sto → Res W} {apos cpos : Pos} (hK : X.K = Γ.K) (slot : Slot "list" name id) (hty : typeOf (.builtin id) = pure (.type "method_descriptor")) (hm : MtR X id r) (hF : MtOk Γ r F) (ho : PE X o (tE Γ Wx eo)) (ha : PA X (e :: es) (tA Γ Wx eas))
    (hbase : attributeBase o name X.env (eval o X.env) = eval o X.env := by rfl)
    (hfew : ((backTo cpos (starEach (e :: es) X.env)).all (fun x => !x.1) && (backToKw cpos (keywordEach [] X.env)).all (fun x => x.1.isSome) && decide ((e :: es).length + ([] : List Keyword).length + (if ([] : List Keyword).isEmpty then 0 else 1) < 30)) = true := by rfl)
    (hline : (apos.endLine == cpos.line) = true := by rfl) (hs : starEach (e :: es) X.env = (false, eval e X.env) :: starEach es X.env := by rfl) (hplain : (backTo cpos (starEach es X.env)).any (·.1) = false := by rfl) : PE X (.Call (.Attribute o name apos) (e :: es) [] cpos) (tE Γ Wx (eMt F eo eas)) :=
  PE_imp (pe_bm PySem.F.plainAttrs_list slot hty hm ho ha hbase hfew hline hs hplain) fun σ H Q ⟨μ, l, st, hs, hl, h⟩ => tG_bind hs hl h _ fun w st1 μ1 H1 v e1 s1 r1 h1 => by
    split at h1
    · rename_i hl1
      obtain ⟨n, us, rfl, ec⟩ := isL_at hl1
      refine ⟨?_, tG_bind s1 (hl.mono e1) h1 _ fun ws st2 μ2 H2 xs e2 s2 r2 h2 => (hF Wx μ2 σ H2 st2 (.ref n) v ws xs Q s2 (r1.mono e2) r2 h2).2⟩
      cases r1 with
      | ref hmm =>
        obtain ⟨vs, q1, q2⟩ := s1.cell n _ _ ec hmm
        exact .inl ⟨rfl, vs, by rw [hK]; exact .inl (.inl q1)⟩
    · exact h1.elim
def sIxW (o i e : Ev) : Sx := fun l st => xs (e l st) l fun v st1 => xs (o l st1) l fun x st2 => xs (i l st2) l fun y st3 => match x, y with
  | .ref n, .int k => match st3.c[n]? with
    | some (.lst us) => match ixN us.length k with | some j => .nx l (st3.put n (.lst (us.set j v)) (W.low n v)) | none => .err
    | _ => .err
  | _, _ => .err
theorem qs_ixw {i : Expr} {ei : Ev} {pos pos' : Pos} (he : PE X e (tE Γ Wx ea)) (ho : PE X o (tE Γ Wx eo)) (hi : PE X i (tE Γ Wx ei))
    (hsub : ∀ v, assign (.Subscript o i pos') X.env v = (do let ov ← holding [v] (eval o X.env); let iv ← holding [v, ov] (eval i X.env); standAt pos'; holding [v, ov, iv] (setItem ov iv v); release [v, ov, iv] []) := by intro _; rfl)
    (hs : swapsWithSole [.Subscript o i pos'] e pos.line X.env = pure false := by rfl) (hw : swappedStores [.Subscript o i pos'] e X.env = pure none := by rfl) (h1 : (assignEach [.Subscript o i pos'] X.env).map (·.2) = [assign (.Subscript o i pos') X.env] := by rfl) :
    PS X (.Assign [.Subscript o i pos'] e pos) (tS Γ Wx (sIxW eo ei ea)) :=
  PS_imp (ps_asg he (pg_sub ho hi set_list hsub) hs hw h1) fun D σ H ⟨μ, l, st, hs, hl, h⟩ => tG_bindS hs hl h _ fun v st1 μ1 H1 vv e1 s1 r1 h1 => tG_bindS s1 (hl.mono e1) h1 _ fun x st2 μ2 H2 xv e2 s2 r2 h2 => tG_bindS s2 (hl.mono (e1.trans e2)) h2 _ fun y st3 μ3 H3 yv e3 s3 r3 h3 => by
    split at h3
    · rename_i n k
      split at h3
      · rename_i us ec
        split at h3
        · rename_i j ej
          cases r3
          cases r2 with
          | ref hm =>
            have hm := e3.pre _ _ hm
            obtain ⟨as, q1, q2⟩ := s3.cell n _ _ ec hm
            refine ⟨_, as, k, j, rfl, rfl, q1, by rw [← q2.length]; exact ej, ?_⟩
            have E := ext_wr (K := Γ.K) (μ := μ3) (o := .lst (as.set j vv)) q1
            have rr := q2.set (r1.mono (e2.trans e3)) j
            exact h3 _ _ _ E (s3.write ec hm q1 rfl rfl ⟨_, upd_same, rr.mono E⟩ fun b m hm q => lows_set (W.low_mono hm b) j q) (hl.mono (e1.trans (e2.trans (e3.trans E))))
        · exact h3.elim
      · exact h3.elim
    · exact h3.elim
end
end RB
namespace RB
open PySem PySem.Spec PyProof.Rows L2
abbrev Sv := Lo → Sto → Res Src
def vSeq (a : Ev) : Sv := fun l st => (a l st).bind fun w st1 => match w with
  | .tup ws => .ok (.fix ws) st1
  | .ref n => match getL st1 n with | some _ => .ok (.live n) st1 | none => .err
  | _ => .err
def upFrom (lo : Int) : Nat → List W
  | 0 => []
  | n + 1 => .int lo :: upFrom (lo + 1) n
def vRng1 (a : Evs) : Sv := fun l st => (a l st).bind fun ws st1 => match ws with | [.int j] => if -1000000 ≤ j ∧ j ≤ 1000000 then .ok (.fix (upFrom 0 j.toNat)) st1 else .err | _ => .err
theorem upFrom_get : ∀ (lo : Int) (n i : Nat), (upFrom lo n)[i]? = if i < n then some (.int (lo + i)) else none
  | lo, 0, i => by simp [upFrom]
  | lo, n + 1, 0 => by simp [upFrom]
  | lo, n + 1, i + 1 => by
    simp only [upFrom, List.getElem?_cons_succ]
    rw [upFrom_get (lo + 1) n i]
    by_cases h : i < n
    · rw [if_pos h, if_pos (by omega)]
      congr 2
      omega
    · rw [if_neg h, if_neg (by omega)]
section
variable {X : Cx} {Γ : Gf} {Wx : WX} {e a b o tg iter elt : Expr} {es : List Expr} {ea eb eo : Ev} {eas : Evs}
theorem getLive {μ : List Addr} {H : Hp} {st : Sto} {n : Nat} {a : Addr} {ws : List W} (hs : Sim Γ μ st H) (hm : μ[n]? = some a) (h : getL st n = some ws) : ∃ xs, SqL Γ.K H a xs ∧ Reps Γ.K μ H ws xs := by
  obtain ⟨a', xs, e, h1, h2⟩ := getL_rep (v := .ref a) hs h (.ref hm)
  cases e
  exact ⟨xs, h1, h2⟩
theorem itok_live {μ : List Addr} {H : Hp} {n : Nat} {a : Addr} (hm : μ[n]? = some a) : ItOk Γ (Itl Γ.K a) (.live n) μ H := fun μ' H' st' e s i => by
  have hm := e.pre _ _ hm
  refine ⟨fun w h => ?_, fun h => ?_⟩
  · simp only [Src.at] at h
    cases eg : getL st' n with
    | none => rw [eg] at h; cases h
    | some ws =>
      rw [eg] at h
      have h : ws[i]? = some w := by simpa using h
      obtain ⟨xs, q1, q2⟩ := getLive s hm eg
      obtain ⟨v, z1, z2⟩ := q2.get h
      refine ⟨⟨xs, v, q1, z1⟩, fun x H'' hy => ?_⟩
      obtain ⟨rfl, hx⟩ := hy
      have := (hx xs q1).symm.trans z1
      cases this
      exact ⟨.refl, s, z2⟩
  · simp only [Src.at] at h
    cases eg : getL st' n with
    | none => rw [eg] at h; cases h
    | some ws =>
      rw [eg] at h
      have h : ws[i]? = none := by simpa using h
      obtain ⟨xs, q1, q2⟩ := getLive s hm eg
      exact ⟨xs, q1, by rw [← q2.length]; exact List.getElem?_eq_none_iff.mp h⟩
theorem itok_fix {μ : List Addr} {H : Hp} {a : Addr} {ws : List W} {xs : List V} (h1 : SqT Γ.K H a xs) (h2 : Reps Γ.K μ H ws xs) : ItOk Γ (Itt Γ.K a) (.fix ws) μ H := fun μ' H' st' e s i => by
  have q1 := e.tup _ _ h1
  have q2 := h2.mono e
  refine ⟨fun w h => ?_, fun h => ?_⟩
  · have h : ws[i]? = some w := by simpa [Src.at] using h
    obtain ⟨v, z1, z2⟩ := q2.get h
    refine ⟨⟨xs, v, q1, z1⟩, fun x H'' hy => ?_⟩
    obtain ⟨rfl, hx⟩ := hy
    have := (hx xs q1).symm.trans z1
    cases this
    exact ⟨.refl, s, z2⟩
  · have h : ws[i]? = none := by simpa [Src.at] using h
    exact ⟨xs, q1, by rw [← q2.length]; exact List.getElem?_eq_none_iff.mp h⟩
theorem itok_rng {μ : List Addr} {H : Hp} (lo : Int) (n : Nat) : ItOk Γ (Itr lo n) (.fix (upFrom lo n)) μ H := fun μ' H' st' e s i => by
  refine ⟨fun w h => ?_, fun h => ?_⟩
  · have h : (upFrom lo n)[i]? = some w := by simpa [Src.at] using h
    rw [upFrom_get] at h
    split at h
    · rename_i hi
      cases h
      refine ⟨hi, fun x H'' hy => ?_⟩
      obtain ⟨rfl, rfl⟩ := hy
      exact ⟨.refl, s, .int _⟩
    · cases h
  · have h : (upFrom lo n)[i]? = none := by simpa [Src.at] using h
    rw [upFrom_get] at h
    split at h
    · cases h
    · rename_i hi
      exact Nat.le_of_not_lt hi
theorem qi_seq (hK : X.K = Γ.K) (ha : PE X iter (tE Γ Wx ea)) : PI X tg iter (tI Γ Wx (vSeq ea)) :=
  PI_imp (PI_or (pi_list ha) (pi_tup ha)) fun σ H R ⟨μ, l, st, hs, hl, h⟩ => by
    rw [hK]
    unfold vSeq at h
    cases ee : ea l st with
    | err => rw [ee] at h; exact h.elim
    | exc c p st1 =>
      rw [ee] at h
      exact .inl ⟨μ, l, st, hs, hl, by rw [ee]; exact h⟩
    | ok w st1 =>
      rw [ee] at h
      simp only [Res.bind] at h
      cases w with
      | tup ws =>
        refine .inr ⟨μ, l, st, hs, hl, ?_⟩
        rw [ee]
        intro μ1 H1 v e1 s1 r1
        cases r1 with
        | tup q1 q2 => exact ⟨_, rfl, ⟨_, q1⟩, h μ1 H1 _ e1 s1 (itok_fix q1 q2)⟩
      | ref n =>
        refine .inl ⟨μ, l, st, hs, hl, ?_⟩
        rw [ee]
        intro μ1 H1 v e1 s1 r1
        cases eg : getL st1 n with
        | none => simp only [eg] at h
        | some ws =>
          simp only [eg] at h
          cases r1 with
          | ref hm =>
            obtain ⟨xs, q1, q2⟩ := getLive s1 hm eg
            exact ⟨_, rfl, ⟨_, q1⟩, h μ1 H1 _ e1 s1 (itok_live hm)⟩
      | _ => exact h.elim
theorem vbind {f : Lo → Sto → Res (List W)} {k : List W → Sto → Res Src} {μ : List Addr} {l : Lo} {st : Sto} {σ : L2.St} {H : Hp} {R : It → Hp → Prop} (hs : Sim Γ μ st H) (hl : LRep Γ.K μ H l σ) (h : match (f l st).bind k with
  | .ok s st' => ∀ μ' H' J, Ext Γ.K μ μ' H H' → Sim Γ μ' st' H' → ItOk Γ J s μ' H' → R J H'
  | .exc c p st' => ∀ μ' H' d v, Ext Γ.K μ μ' H H' → Sim Γ μ' st' H' → Rep Γ.K μ' H' p v → H' d = some (.xd [(Γ.fld c, v)]) → Wx (.ref (Γ.ec c)) (some d) σ H'
  | .err => False) (S : List V → Hp → Prop) (hS : ∀ a st1 μ1 H1 b, Ext Γ.K μ μ1 H H1 → Sim Γ μ1 st1 H1 → Reps Γ.K μ1 H1 a b → (match k a st1 with
  | .ok s st' => ∀ μ' H' J, Ext Γ.K μ1 μ' H1 H' → Sim Γ μ' st' H' → ItOk Γ J s μ' H' → R J H'
  | .exc c p st' => ∀ μ' H' d v, Ext Γ.K μ1 μ' H1 H' → Sim Γ μ' st' H' → Rep Γ.K μ' H' p v → H' d = some (.xd [(Γ.fld c, v)]) → Wx (.ref (Γ.ec c)) (some d) σ H'
  | .err => False) → S b H1) : tA Γ Wx f σ H S := by
  refine ⟨μ, l, st, hs, hl, ?_⟩
  cases e : f l st with
  | err => rw [e] at h; exact h
  | exc c p st1 => rw [e] at h; exact h
  | ok a st1 =>
    rw [e] at h
    intro μ1 H1 b e1 s1 r1
    refine hS a st1 μ1 H1 b e1 s1 r1 ?_
    simp only [Res.bind] at h
    cases ek : k a st1 with
    | err => rw [ek] at h; exact h
    | exc c p st2 => rw [ek] at h; exact fun μ2 H2 d v e2 => h μ2 H2 d v (e1.trans e2)
    | ok s st2 => rw [ek] at h; exact fun μ2 H2 J e2 => h μ2 H2 J (e1.trans e2)
theorem qi_rng1 {p pos : Pos} (hg : Gl X "range") (hm : X.mg "range" = none) (ha : PA X [a] (tA Γ Wx eas)) (hs : starEach [a] X.env = [(false, eval a X.env)] := by rfl) : PI X tg (.Call (.Name "range" p) [a] [] pos) (tI Γ Wx (vRng1 eas)) :=
  PI_imp (pi_range1 hg hm ha hs) fun σ H R ⟨μ, l, st, hs, hl, h⟩ => vbind hs hl h _ fun ws st1 μ1 H1 xs e1 s1 r1 h1 => by
    cases r1 with
    | nil => exact h1.elim
    | cons r t =>
      cases t with
      | cons _ _ => cases r <;> exact h1.elim
      | nil =>
        cases r with
        | int j =>
          dsimp only at h1
          by_cases hj : -1000000 ≤ j ∧ j ≤ 1000000
          · rw [if_pos hj] at h1
            exact ⟨j, rfl, by omega, by omega, h1 μ1 H1 _ .refl s1 (itok_rng 0 _)⟩
          · rw [if_neg hj] at h1; exact h1.elim
        | _ => exact h1.elim
abbrev W0 : WX := fun _ _ _ _ => False
def bYes : Bv := fun _ st => .ok true st
theorem PTs_imp {ifs : List Expr} {t t' : TT} (h : PTs X ifs t) (k : ∀ σ H Q, t' σ H Q → t σ H Q) : PTs X ifs t' := ⟨fun pins s σ H Q I q => h.run pins s σ H Q I (k _ _ _ q)⟩
theorem qc_nil : PTs X [] (tT Γ Wx bYes) := PTs_imp pts_nil fun σ H Q ⟨μ, l, st, hs, hl, h⟩ => h.here hs rfl
abbrev Rv := Lo → Sto → Res Unit
def cLoop (s : Src) (tg : Tg) (own : List Nat) (cond : Bv) (body : Rv) (l : Lo) : Nat → Nat → Sto → Res Unit
  | 0, _, _ => .err
  | f + 1, i, st => match s.at st i with
    | none => .err
    | some none => .ok () st
    | some (some w) => match tg w (wipeL l own) st with
      | none => .err
      | some l1 => match cond l1 st with
        | .ok b st1 => if b = true then (match body l1 st1 with | .ok _ st2 => cLoop s tg own cond body l f (i + 1) st2 | _ => .err) else cLoop s tg own cond body l f (i + 1) st1
        | _ => .err
def cApp (elt : Ev) (D : Nat) : Rv := fun l st => match elt l st with
  | .ok y st1 => match st1.c[D]? with | some (.lst us) => if us.length < 1000000 then .ok () (st1.put D (.lst (us ++ [y])) (W.low D y)) else .err | _ => .err
  | _ => .err
def eComp (n : Nat) (own : List Nat) (src : Sv) (tg : Tg) (cond : Bv) (elt : Ev) : Ev := fun l st => (src l st).bind fun s st1 => (cLoop s tg own cond (cApp elt st1.c.length) l n 0 (st1.push (.lst []))).bind fun _ st2 => .ok (.ref st1.c.length) st2
def CT (Γ : Gf) (g : TG) (tg : Tg) (vs : List Nat) : Prop := ∀ μ H l σ w v l' st Q, Sim Γ μ st H → LRep Γ.K μ H l (L2.wipe σ vs) → Rep Γ.K μ H w v → tg w l st = some l' → (∀ σ2, LRep Γ.K μ H l' σ2 → L2.wipe σ2 vs = L2.wipe σ vs → Q σ2 H) → g v (L2.wipe σ vs) H Q
theorem wipe_set {i : Nat} {x : Option V} : ∀ {vs : List Nat} {σ : L2.St}, i ∈ vs → L2.wipe (σ.set i x) vs = L2.wipe σ vs := by
  have key : ∀ {vs : List Nat} {σ : L2.St}, L2.wipe (σ.set i x) vs = L2.wipe σ vs ∨ (i ∉ vs ∧ L2.wipe (σ.set i x) vs = (L2.wipe σ vs).set i x) := by
    intro vs
    induction vs with
    | nil => intro σ; exact .inr ⟨by simp, rfl⟩
    | cons v r ih =>
      intro σ
      unfold L2.wipe
      rcases ih (σ := σ) with e | ⟨h, e⟩
      · exact .inl (by rw [e])
      · rw [e]
        by_cases hv : v = i
        · subst hv; exact .inl (by rw [List.set_set])
        · exact .inr ⟨by simp [h]; exact fun z => hv z.symm, by rw [List.set_comm _ _ (Ne.symm hv)]⟩
  intro vs σ h
  rcases key (vs := vs) (σ := σ) with e | ⟨h', _⟩
  · exact e
  · exact absurd h h'
theorem wipe_wipe : ∀ {vs : List Nat} {σ : L2.St}, L2.wipe (L2.wipe σ vs) vs = L2.wipe σ vs := by
  have key : ∀ (us vs : List Nat) (σ : L2.St), (∀ u ∈ us, u ∈ vs) → L2.wipe (L2.wipe σ us) vs = L2.wipe σ vs := by
    intro us
    induction us with
    | nil => intro vs σ _; rfl
    | cons u r ih =>
      intro vs σ h
      show L2.wipe ((L2.wipe σ r).set u none) vs = _
      rw [wipe_set (h u (by simp)), ih vs σ fun x hx => h x (by simp [hx])]
  intro vs σ
  exact key vs vs σ fun _ h => h
theorem ct_name {i : Nat} {vs : List Nat} (h : i ∈ vs) : CT Γ (gName i) (tgName i) vs := fun μ H l σ w v l' st Q hs hl hr e k => by
  cases e
  exact k _ (hl.set hr i) (by rw [wipe_set h, wipe_wipe])
theorem lc_run {own : List (Str × Nat)} {src : Sv} {t : Tg} {g : TG} {bc : Bv} {n : Nat} (hgt : CT Γ g t (own.map (·.2))) (σ : L2.St) (H : Hp) (Q : VK) (h : tE Γ Wx (eComp n (own.map (·.2)) src t bc ea) σ H Q) :
    tLc (tI Γ Wx src) g (tT Γ W0 bc) (tE Γ W0 ea) (own.map (·.2)) σ H Q := by
    obtain ⟨μ, l, st, hs, hl, h⟩ := h
    refine ⟨μ, l, st, hs, hl, ?_⟩
    unfold eComp at h
    cases es : src l st with
    | err => rw [es] at h; exact h
    | exc c p st1 => rw [es] at h; exact h
    | ok s st1 =>
      rw [es] at h
      intro μ1 H1 J e1 s1 hJ D hD
      have h := Post.mono (show Post Γ Wx (Rep Γ.K) μ σ H Q ((cLoop s t (own.map (·.2)) bc (cApp ea st1.c.length) l n 0 (st1.push (.lst []))).bind fun _ st2 => .ok (.ref st1.c.length) st2) from h) e1
      have E : Ext Γ.K μ1 (μ1 ++ [D]) H1 (upd H1 D (.lst [])) := ext_new hD
      have s2 : Sim Γ (μ1 ++ [D]) (st1.push (.lst [])) (upd H1 D (.lst [])) := s1.new hD ⟨[], upd_same, .nil⟩ rfl
      have hd : (μ1 ++ [D])[st1.c.length]? = some D := by rw [← s1.len]; simp
      have h := Post.mono h E
      have hJ := hJ.mono E
      have hl := hl.mono (e1.trans E)
      generalize st1.c.length = d at *
      refine ⟨fun i m H' => ∃ μ' st', Ext Γ.K (μ1 ++ [D]) μ' (upd H1 D (.lst [])) H' ∧ Sim Γ μ' st' H' ∧ Post Γ Wx (Rep Γ.K) μ' σ H' Q ((cLoop s t (own.map (·.2)) bc (cApp ea d) l m i st').bind fun _ st2 => .ok (.ref d) st2), ⟨n, _, _, .refl, s2, h⟩, ?_⟩
      rintro i m H' ⟨μ2, st2, e2, s2', h2⟩
      obtain ⟨go, stop⟩ := hJ μ2 H' st2 e2 s2' i
      cases m with
      | zero => exact h2.elim
      | succ m =>
        unfold cLoop at h2
        cases ea1 : s.at st2 i with
        | none => rw [ea1] at h2; exact h2.elim
        | some oo =>
          cases oo with
          | none =>
            rw [ea1] at h2
            exact .inl ⟨stop ea1, Post.here (show Post Γ Wx (Rep Γ.K) μ2 σ H' Q (.ok (.ref d) st2) from h2) s2' (.ref (e2.pre _ _ hd))⟩
          | some w =>
            rw [ea1] at h2
            obtain ⟨go1, go2⟩ := go w ea1
            refine .inr ⟨go1, fun H3 => ∃ μ' st', Ext Γ.K (μ1 ++ [D]) μ' (upd H1 D (.lst [])) H3 ∧ Sim Γ μ' st' H3 ∧ Post Γ Wx (Rep Γ.K) μ' σ H3 Q ((cLoop s t (own.map (·.2)) bc (cApp ea d) l m (i + 1) st').bind fun _ st2 => .ok (.ref d) st2), fun H3 q => ⟨m, Nat.lt_succ_self _, q⟩, fun v H3 hy => ?_⟩
            obtain ⟨y1, y2, y3⟩ := go2 v H3 hy
            dsimp only at h2
            cases et : t w (wipeL l (own.map Prod.snd)) st2 with
            | none => rw [et] at h2; exact h2.elim
            | some l3 =>
              rw [et] at h2
              dsimp only at h2
              have e3 := e2.trans y1
              have h2 := Post.mono h2 y1
              refine hgt μ2 H3 _ σ w v l3 st2 _ y2 ((hl.mono e3).wipe (own.map Prod.snd)) y3 et fun σ2 lr2 hw => ⟨hw, μ2, l3, st2, y2, lr2, ?_⟩
              cases eb : bc l3 st2 with
              | err => rw [eb] at h2; exact h2.elim
              | exc c p st4 => rw [eb] at h2; exact h2.elim
              | ok bb st4 =>
                rw [eb] at h2
                intro μ4 H4 b' e4 s4 r4
                subst r4
                have h4 := Post.mono h2 e4
                dsimp only at h4
                cases bb with
                | false => exact ⟨μ4, st4, e3.trans e4, s4, h4⟩
                | true =>
                  refine ⟨μ4, l3, st4, s4, lr2.mono e4, ?_⟩
                  have h4 : Post Γ Wx (Rep Γ.K) μ4 σ H4 Q ((match cApp ea d l3 st4 with | .ok _ st2 => cLoop s t (own.map Prod.snd) bc (cApp ea d) l m (i + 1) st2 | _ => Res.err).bind fun _ st2 => .ok (.ref d) st2) := h4
                  unfold cApp at h4
                  cases ey : ea l3 st4 with
                  | err => rw [ey] at h4; exact h4.elim
                  | exc c p st5 => rw [ey] at h4; exact h4.elim
                  | ok y st5 =>
                    rw [ey] at h4
                    intro μ5 H5 yv e5 s5 r5
                    have h5 := Post.mono h4 e5
                    have hd5 := (e3.trans (e4.trans e5)).pre _ _ hd
                    dsimp only at h5
                    cases ec : st5.c[d]? with
                    | none => rw [ec] at h5; exact h5.elim
                    | some cc =>
                      rw [ec] at h5
                      cases cc with
                      | lst us =>
                        obtain ⟨acc, q1, q2⟩ := s5.cell d _ _ ec hd5
                        dsimp only at h5
                        by_cases hlen : us.length < 1000000
                        · rw [if_pos hlen] at h5
                          refine ⟨acc, q1, by rw [← q2.length]; exact Nat.lt_of_lt_of_le hlen (le_line (Nat.le_refl _)), ?_⟩
                          have E5 := ext_wr (K := Γ.K) (μ := μ5) (o := .lst (acc ++ [yv])) q1
                          refine ⟨μ5, _, (e3.trans (e4.trans e5)).trans E5, s5.write (c := .lst (us ++ [y])) (b := W.low d y) ec hd5 q1 rfl rfl ⟨_, upd_same, (q2.snoc r5).mono E5⟩ fun b m hm q => lows_append q (by simp [W.lows]; exact W.low_mono hm b), Post.mono h5 E5⟩
                        · rw [if_neg hlen] at h5; exact h5.elim
                      | _ => exact h5.elim
theorem qe_comp {ifs : List Expr} {scope : Scope} {own : List (Str × Nat)} {pos : Pos} {src : Sv} {t : Tg} {g : TG} {bc : Bv} {n : Nat} (hc : X.calm = true) (hN : X.N.Nodup) (hi : PI X tg iter (tI Γ Wx src)) (ok : BlkOk X.N X.env.scope scope own)
    (hg : ∀ (s : Shared) (H : Hp) (C : Addr) (cl : List (Str × Addr)) (fp : List Addr), PG (X.blk s H scope (compEnvC scope cl C X.env) fp) tg g) (hgt : CT Γ g t (own.map (·.2)))
    (ht : ∀ (s : Shared) (H : Hp) (C : Addr) (cl : List (Str × Addr)) (fp : List Addr), PTs (X.blk s H scope (compEnvC scope cl C X.env) fp) ifs (tT Γ W0 bc))
    (he : ∀ (s : Shared) (H : Hp) (C : Addr) (cl : List (Str × Addr)) (fp : List Addr), PE (X.blk s H scope (compEnvC scope cl C X.env) fp) elt (tE Γ W0 ea))
    (hs : ∀ x, foldedSetIterable iter X.env x = pure x := by intro _; rfl) : PE X (.ListComp elt [⟨tg, iter, ifs, 0⟩] scope pos) (tE Γ Wx (eComp n (own.map (·.2)) src t bc ea)) :=
  PE_imp (pe_lc hc hN hi ok hg ht he hs) fun σ H Q h => lc_run hgt σ H Q h
theorem qs_comp {ifs : List Expr} {scope : Scope} {own : List (Str × Nat)} {pos spos py : Pos} {i : Nat} {y : Str} {src : Sv} {t : Tg} {g : TG} {bc : Bv} {n : Nat} (hc : X.calm = true) (hN : X.N.Nodup) (hy : X.N[i]? = some y) (hyl : X.env.scope.names.lookup y = some .local) (hsw : swapsWith (.ListComp elt [⟨tg, iter, ifs, 0⟩] scope pos) (some (.Name y py)) spos.line X.env = pure true) (hi : PI X tg iter (tI Γ Wx src)) (ok : BlkOk X.N X.env.scope scope own)
    (hg : ∀ (s : Shared) (H : Hp) (C : Addr) (cl : List (Str × Addr)) (fp : List Addr), PG (X.blk s H scope (compEnvC scope cl C X.env) fp) tg g) (hgt : CT Γ g t (own.map (·.2)))
    (ht : ∀ (s : Shared) (H : Hp) (C : Addr) (cl : List (Str × Addr)) (fp : List Addr), PTs (X.blk s H scope (compEnvC scope cl C X.env) fp) ifs (tT Γ W0 bc))
    (he : ∀ (s : Shared) (H : Hp) (C : Addr) (cl : List (Str × Addr)) (fp : List Addr), PE (X.blk s H scope (compEnvC scope cl C X.env) fp) elt (tE Γ W0 ea))
    (hs : ∀ x, foldedSetIterable iter X.env x = pure x := by intro _; rfl) : PS X (.Assign [.Name y py] (.ListComp elt [⟨tg, iter, ifs, 0⟩] scope pos) spos) (tS Γ Wx (sSet (tgName i) (eComp n (own.map (·.2)) src t bc ea))) :=
  PS_imp (ps_setLc hc hN hy hyl hsw hi ok hg ht he hs) fun D σ H ⟨μ, l, st, hs, hl, h⟩ => lc_run hgt σ H _ (tG_bindS hs hl h _ fun w st1 μ1 H1 v e1 s1 r1 h1 => h1.here s1 ((hl.mono e1).set r1 i))
end
end RB
namespace L2
open PySem PySem.Spec PyProof.Rows
section
variable {P : Program} {w : World} {A : Around} {E : Value → Shared → Prop} {z : Shared}
set_option maxHeartbeats 3200000 in
theorem set_of_listI {l : Addr} {vals : Array Value} (ns : List Int) {Q : Value → Shared → Prop} (calm : A.handled = none) (isl : z.heap.IsList l vals) (are : IntsAre vals.toList ns) (room : ns.length + 1 < scanBound)
    (want : ∀ (h' : Heap) (tk c : Nat), SetR w h' z.heap.objs.size (fun j => decide (j ∈ ns)) c → c ≤ ns.length → (∀ b o, z.heap.get? b = some o → h'.get? b = some o) → Q (.ref z.heap.objs.size) { z with heap := h', toks := tk }) :
    wpAny (model P w) A (call (.type "set") [.ref l]) Q E z := by
  have many : vals.size = ns.length := by
    have q := IntsAre.length are
    rwa [Array.length_toList] at q
  obtain ⟨c, tl, hmro⟩ := F.called_set.mro
  have made := F.called_set.made
  have subs := F.called_set.sub
  refine wpAny_call (codeAny_of_tree ?_)
  show wpAny _ _ (callAny (.type "set") _) _ _ _
  refine wpAny_pure ⟨Code.quiet_builtin _ (by decide +kernel), codeAny_builtin F.entry_type_call ?_⟩
  rw [Around.under_plain (weight_type_call_type "set" [.ref l] []) rfl]
  have nt := F.called_set.notType
  have cc := F.called_set.canCreate
  have ct := F.typeCall_set_1 (.ref l)
  repeat (any_goals (first | assumption | wp_step))
  refine codeAny_mono (code_set_led1 (.ref l) (E := E) (Q₁ := fun obj s₁ => obj = .ref z.heap.objs.size ∧ s₁ = { z with heap := z.heap.push { cls := .type "set", dict := none, data := .set #[] 0 (.fresh 0 0 (!w.params.followText "set-order")) } }) ⟨rfl, rfl⟩) fun r s₁ hr => ?_
  match r, hr with
  | .error e, hr => exact hr
  | .ok .next, hr => exact hr
  | .ok .brk, hr => exact hr
  | .ok .cont, hr => exact hr
  | .ok (.ret obj), hr =>
    obtain ⟨rfl, rfl⟩ := hr
    have stands : (z.heap.push { cls := .type "set", dict := none, data := .set #[] 0 (.fresh 0 0 (!w.params.followText "set-order")) }).get? z.heap.objs.size = some { cls := .type "set", dict := none, data := .set #[] 0 (.fresh 0 0 (!w.params.followText "set-order")) } := Heap.get?_push_size _ rfl
    have typed : Shared.TypeIs { z with heap := z.heap.push { cls := .type "set", dict := none, data := .set #[] 0 (.fresh 0 0 (!w.params.followText "set-order")) } } (.ref z.heap.objs.size) "set" := ⟨_, stands, rfl⟩
    have li := F.called_set.init.lookup
    have bi := F.called_set.init.bind (.ref z.heap.objs.size)
    repeat (any_goals (first | assumption | wp_step))
    refine codeAny_mono (codeAny_call_builtin (R := wants (fun r s₂ => r = .none ∧ ∃ h' tk c, s₂ = { z with heap := h', toks := tk } ∧ SetR w h' z.heap.objs.size (fun j => decide (j ∈ ns)) c ∧ c ≤ ns.length ∧ (∀ b o, z.heap.get? b = some o → h'.get? b = some o)) E) F.called_set.init.plain F.entry_set_init (check_set_init_1 typed ?_)) fun r₂ s₂ hr₂ => ?_
    · obtain ⟨ol, hol, hcl, nl, hdl⟩ := isl
      obtain ⟨oc, od, odt, osl⟩ := ol
      simp only at hcl hdl
      subst hcl; subst hdl
      have there : (z.heap.push { cls := .type "set", dict := none, data := .set #[] 0 (.fresh 0 0 (!w.params.followText "set-order")) }).get? l = some { cls := .type "list", dict := od, data := .seq vals nl, slots := osl } := Heap.get?_push_of_some _ hol
      have s1 := F.sub_list_set
      have s2 := F.sub_list_frozenset
      have s3 : (Value.type "list" == Value.type "dict") = false := by decide
      have is1 : (z.heap.push { cls := .type "set", dict := none, data := .set #[] 0 (.fresh 0 0 (!w.params.followText "set-order")) }).IsList l vals := ⟨_, there, rfl, nl, rfl⟩
      unfold Builtin.«set.__init__» noKeywords Builtin.Frozenset.updateFrom
      generalize hPI : pyIter = PI
      wp_walk
      subst hPI
      refine wpAny_pyIter_list is1 ?_
      refine wpAny_bind (wpAny_runValue ?_)
      have below : l < z.heap.objs.size := Heap.lt_size hol
      have calm3 : A.in1.in1.in1.handled = none := by simp [calm]
      have apart : l ≠ (z.heap.push { cls := .type "set", dict := none, data := .set #[] 0 (.fresh 0 0 (!w.params.followText "set-order")) }).objs.size := by
        rw [Heap.size_push]
        exact Nat.ne_of_lt (Nat.lt_succ_of_lt below)
      have notIn : z.heap.objs.size ∉ [(z.heap.push { cls := .type "set", dict := none, data := .set #[] 0 (.fresh 0 0 (!w.params.followText "set-order")) }).objs.size, l] := by
        rw [Heap.size_push]
        simp only [List.mem_cons, List.mem_singleton, List.not_mem_nil, or_false, not_or]
        exact ⟨Nat.ne_of_lt (Nat.lt_succ_self _), Nat.ne_of_gt below⟩
      have each : ∀ (i : Nat) (v : Value), vals[i]? = some v → ∃ k t, ns[i]? = some k ∧ v = .int k t := fun i v hv => by
        have hi : i < ns.length := by rw [← many]; exact (Array.getElem?_eq_some_iff.mp hv).1
        obtain ⟨t, e⟩ := PyProof.Rows.IntsAre.int_at are i v (by rw [Array.getElem?_toList]; exact hv)
        refine ⟨ns[i], t, List.getElem?_eq_getElem hi, ?_⟩
        rw [e, List.getD_eq_getElem?_getD, List.getElem?_eq_getElem hi] <;> rfl
      refine set_update_ints ((Walks.list calm3 _ l apart vals).toS) z.heap.objs.size notIn ns many room each (vals.size - 0) 0 _ (by omega) (Nat.zero_le _) ⟨⟨_, Heap.get?_push_size _ rfl, rfl, rfl⟩, (is1.push _)⟩ ?first ?last
      case first =>
        have still : ((z.heap.push { cls := .type "set", dict := none, data := .set #[] 0 (.fresh 0 0 (!w.params.followText "set-order")) }).push { cls := .type "list_iterator", data := .fields #[.ref l, .int 0 0] }).get? z.heap.objs.size
            = some { cls := .type "set", dict := none, data := .set #[] 0 (.fresh 0 0 (!w.params.followText "set-order")) } := Heap.get?_push_of_some _ stands
        exact ⟨0, Nat.le_refl 0, setR_new_at still⟩
      case last =>
        intro z2 c2 mv hc2 hS2
        obtain ⟨h2, g2, d2, tk2, os2⟩ := z2
        have eg : g2 = z.gens := mv.gens
        have ed : d2 = z.drawn := mv.drawn
        have eo : os2 = z.os := mv.os
        subst eg; subst ed; subst eo
        show wpAny _ _ _ _ _ _
        refine wpAny_pure ?_
        show wpAny _ _ (ret Value.none) _ _ _
        rw [many] at hc2
        refine wpAny_pure ⟨rfl, h2, tk2, c2, rfl, hS2, hc2, fun b o e => ?_⟩
        have b0 : b < z.heap.objs.size := Heap.lt_size e
        have b1 : b ≠ z.heap.objs.size := Nat.ne_of_lt b0
        have b2 : b ≠ (z.heap.push { cls := .type "set", dict := none, data := .set #[] 0 (.fresh 0 0 (!w.params.followText "set-order")) }).objs.size := by
          rw [Heap.size_push]
          exact Nat.ne_of_lt (Nat.lt_succ_of_lt b0)
        exact mv.heap b o (by simp only [List.mem_cons, List.mem_singleton, List.not_mem_nil, or_false, not_or]; exact ⟨b1, b2⟩) (Heap.get?_push_of_some _ (Heap.get?_push_of_some _ e))
    · match r₂, hr₂ with
      | .error e, hr₂ => exact hr₂
      | .ok .next, hr₂ => exact hr₂.elim
      | .ok .brk, hr₂ => exact hr₂.elim
      | .ok .cont, hr₂ => exact hr₂.elim
      | .ok (.ret r), hr₂ =>
        obtain ⟨rfl, h2, tk, c2, rfl, q1, q2, q3⟩ := hr₂
        repeat (any_goals (first | assumption | wp_step))
        exact want _ _ _ q1 q2 q3
end
end L2
namespace L2
open PySem PySem.Spec PyProof.Rows
theorem nodup_count {xs ys : List Int} (hx : xs.Nodup) (hy : ys.Nodup) (h : ∀ k, k ∈ xs ↔ k ∈ ys) : xs.length = ys.length :=
  ((List.perm_ext_iff_of_nodup hx hy).mpr h).length_eq
def insU (x : Int) : List Int → List Int
  | [] => [x]
  | y :: r => if x < y then x :: y :: r else if x = y then y :: r else y :: insU x r
def setI (ns : List Int) : List Int := ns.foldr insU []
theorem insU_mem (x k : Int) : ∀ l, k ∈ insU x l ↔ k = x ∨ k ∈ l
  | [] => by simp [insU]
  | y :: r => by
    unfold insU
    split
    · simp
    · split
      · rename_i e; subst e; simp
      · simp [insU_mem x k r]
        constructor
        · rintro (h | h | h)
          · exact .inr (.inl h)
          · exact .inl h
          · exact .inr (.inr h)
        · rintro (h | h | h)
          · exact .inr (.inl h)
          · exact .inl h
          · exact .inr (.inr h)
theorem insU_rises (x : Int) : ∀ l : List Int, l.Pairwise (· < ·) → (insU x l).Pairwise (· < ·)
  | [], _ => by simp [insU]
  | y :: r, h => by
    rw [List.pairwise_cons] at h
    unfold insU
    split
    · rename_i hx
      rw [List.pairwise_cons]
      refine ⟨fun z hz => ?_, by rw [List.pairwise_cons]; exact h⟩
      rcases List.mem_cons.mp hz with e | e
      · omega
      · have := h.1 z e; omega
    · split
      · rw [List.pairwise_cons]; exact h
      · rw [List.pairwise_cons]
        refine ⟨fun z hz => ?_, insU_rises x r h.2⟩
        rcases (insU_mem x z r).mp hz with e | e
        · omega
        · exact h.1 z e
theorem setI_mem (k : Int) : ∀ ns, k ∈ setI ns ↔ k ∈ ns
  | [] => by simp [setI]
  | x :: r => by
    show k ∈ insU x (setI r) ↔ _
    rw [insU_mem, setI_mem k r, List.mem_cons]
theorem setI_rises : ∀ ns, (setI ns).Pairwise (· < ·)
  | [] => .nil
  | x :: r => insU_rises x _ (setI_rises r)
theorem rises_nodup {l : List Int} (h : l.Pairwise (· < ·)) : l.Nodup := h.imp fun h => by omega
theorem rises_same : ∀ {l l' : List Int}, l.Pairwise (· < ·) → l'.Pairwise (· < ·) → (∀ k, k ∈ l ↔ k ∈ l') → l = l'
  | [], [], _, _, _ => rfl
  | [], y :: s, _, _, h => absurd ((h y).mpr (by simp)) (by simp)
  | x :: r, [], _, _, h => absurd ((h x).mp (by simp)) (by simp)
  | x :: r, y :: s, h1, h2, h => by
    rw [List.pairwise_cons] at h1 h2
    have e : x = y := by
      rcases List.mem_cons.mp ((h x).mp (by simp)) with e | e
      · exact e
      · rcases List.mem_cons.mp ((h y).mpr (by simp)) with e2 | e2
        · exact e2.symm
        · have := h2.1 x e; have := h1.1 y e2; omega
    subst e
    rw [rises_same h1.2 h2.2 fun k => ?_]
    have hk := h k
    simp only [List.mem_cons] at hk
    constructor
    · intro a
      rcases hk.mp (.inr a) with b | b
      · subst b; have := h1.1 k a; omega
      · exact b
    · intro a
      rcases hk.mpr (.inr a) with b | b
      · subst b; have := h2.1 k a; omega
      · exact b
section
variable {X : Cx}
def rSetI (K : PySem.W.Frag) (w : World) : List V → Hp → VK → Prop := fun vs H Q => ∃ (a : Addr) (ns : List Int), vs = [.ref a] ∧ (SqL K H a (ns.map V.int) ∨ SqT K H a (ns.map V.int)) ∧ ns.length < 60 ∧ ∀ p, H p = none → Q (.ref p) (upd H p (SetO w p (fun j => decide (j ∈ ns)) (setI ns).length))
theorem card_of {w : World} {h : Heap} {a : Addr} {ns : List Int} {c : Nat} (R : SetR w h a (fun j => decide (j ∈ ns)) c) : c = (setI ns).length := by
  obtain ⟨o, es, ep, t, _, _, _, _, nd, mem, _, _, hn, _⟩ := R
  have e := nodup_count nd (rises_nodup (setI_rises ns)) fun k => by
    rw [setI_mem]
    constructor
    · intro z; exact of_decide_eq_true ((mem k).mpr z)
    · intro z; exact (mem k).mp (decide_eq_true z)
  rw [← e, ← hn]
  simp
theorem cr_setI (hc : X.calm = true) : CallR X (.type "set") (rSetI X.K X.w) := by
  intro ps st σ H xs us Q I r want
  obtain ⟨a, ns, rfl, hs, hl, q⟩ := want
  rw [Vals.ref1 r]
  have fin : ∀ (h2 : Heap) (tk c : Nat), SetR X.w h2 st.heap.objs.size (fun j => decide (j ∈ ns)) c → (∀ b o, st.heap.get? b = some o → h2.get? b = some o) → EP X ps σ Q (.ref st.heap.objs.size) { st with heap := h2, toks := tk } := fun h2 tk c R k => by
    have e := card_of R
    subst e
    have n := I.hok.fresh (Nat.le_refl st.heap.objs.size)
    exact ⟨.ref _, _, I.laid (t' := tk) k (Nat.le_refl _) (setO_new R), rfl, q _ n⟩
  rcases hs with hs | hs
  · obtain ⟨its, rv, pl, hz⟩ := I.list hs
    exact set_of_listI ns (I.ok.hd hc) pl.isList (by simpa using rv.ints) (by unfold scanBound; omega) fun h2 tk c R _ k => fin h2 tk c R k
  · obtain ⟨its, rv, pl, hz⟩ := I.tuple hs
    exact call_set_tupI ns (I.ok.hd hc) pl (by simpa using rv.ints) (by unfold scanBound; omega) fun h2 tk c R _ k => fin h2 tk c R k
end
end L2
namespace RB
open PySem PySem.Spec PyProof.Rows L2
def fSortSet (w : W) (st : Sto) : Res W := match (seqOf st w).bind intsOf with | some ns => if ns.length < 60 then .ok (.ref st.c.length) (st.push (.lst ((setI ns).map .int))) else .err | none => .err
theorem setI_le (ns : List Int) : (setI ns).length ≤ ns.length := by
  induction ns with
  | nil => exact Nat.le_refl _
  | cons x r ih =>
    have key : ∀ l : List Int, (insU x l).length ≤ l.length + 1 := by
      intro l
      induction l with
      | nil => exact Nat.le_refl _
      | cons y s ih2 =>
        unfold insU
        split
        · simp
        · split
          · simp
          · simp; exact ih2
    have := key (setI r)
    show (insU x (setI r)).length ≤ _
    simp
    omega
section
variable {X : Cx} {Γ : Gf} {Wx : WX} {e a b o : Expr} {es : List Expr} {ea eb eo : Ev} {eas : Evs}
theorem seqInts {μ : List Addr} {H : Hp} {st : Sto} {w : W} {v : V} {ns : List Int} (hs : Sim Γ μ st H) (h : (seqOf st w).bind intsOf = some ns) (r : Rep Γ.K μ H w v) : ∃ a, v = .ref a ∧ (SqL Γ.K H a (ns.map V.int) ∨ SqT Γ.K H a (ns.map V.int)) := by
  cases e : seqOf st w with
  | none => rw [e] at h; cases h
  | some ws =>
    rw [e] at h
    obtain ⟨a, xs, rfl, h1, h2⟩ := seqOf_rep hs e r
    have q := ints_rep h h2
    subst q
    exact ⟨a, rfl, h1⟩
theorem qe_sortSet {p p2 q pos : Pos} (hK : X.K = Γ.K) (hc : X.calm = true) (hg : Gl X "sorted") (hm : X.mg "sorted" = none) (hg2 : Gl X "set") (hm2 : X.mg "set" = none) (ha : PE X a (tE Γ Wx ea)) (na : starEach [a] X.env = (false, eval a X.env) :: starEach [] X.env := by rfl)
    (nb : starEach [.Call (.Name "set" p2) [a] [] q] X.env = (false, eval (.Call (.Name "set" p2) [a] [] q) X.env) :: starEach [] X.env := by rfl) : PE X (.Call (.Name "sorted" p) [.Call (.Name "set" p2) [a] [] q] [] pos) (tE Γ Wx (eU fSortSet ea)) :=
  PE_imp (pe_callB (cr_sortedSet hc) hg hm (by decide +kernel) (pa_cons (pe_callTy (cr_setI hc) hg2 hm2 (by decide +kernel) (pa_cons ha pa_nil na) (by decide) (by decide) na rfl) pa_nil nb) (by decide) (by decide) nb rfl) fun σ H Q ⟨μ, l, st, hs, hl, h⟩ => tG_bind hs hl h _ fun w st1 μ1 H1 v e1 s1 r1 h1 => by
    unfold fSortSet at h1
    split at h1
    · rename_i ns en
      split at h1
      · rename_i hlen
        obtain ⟨a, rfl, h2⟩ := seqInts s1 en r1
        rw [hK]
        refine ⟨a, ns, rfl, h2, hlen, fun p hp => ⟨p, _, _, rfl, upd_same, by have := setI_le ns; omega, fun ns' p' so me le hp' => ?_⟩⟩
        have eq := rises_same so (setI_rises ns) fun k => by rw [me, setI_mem]; exact ⟨of_decide_eq_true, decide_eq_true⟩
        subst eq
        have E1 : Ext Γ.K μ1 μ1 H1 (upd H1 p (SetO X.w p (fun j => decide (j ∈ ns)) (setI ns).length)) := ext_upd (.inl hp)
        have s2 := s1.other (o := SetO X.w p (fun j => decide (j ∈ ns)) (setI ns).length) hp
        have E2 : Ext Γ.K μ1 (μ1 ++ [p']) (upd H1 p (SetO X.w p (fun j => decide (j ∈ ns)) (setI ns).length)) (upd (upd H1 p (SetO X.w p (fun j => decide (j ∈ ns)) (setI ns).length)) p' (.lst ((setI ns).map V.int))) := ext_new hp'
        have rr : Reps Γ.K (μ1 ++ [p']) (upd (upd H1 p (SetO X.w p (fun j => decide (j ∈ ns)) (setI ns).length)) p' (.lst ((setI ns).map V.int))) ((setI ns).map W.int) ((setI ns).map V.int) := Reps.of_ints _
        exact h1 _ _ _ (E1.trans E2) (s2.new hp' ⟨_, upd_same, rr⟩ ((Reps.of_ints (K := Γ.K) (μ := μ1) (H := H1) (setI ns)).low (Nat.le_of_eq s1.len))) (.ref (by rw [← s1.len]; simp))
      · exact h1.elim
    · exact h1.elim
end
end RB
namespace PySem
namespace ErrX
open PySem.W PySem.Calls PyProof.Rows PySem.HandSPX
abbrev exTail : List Value := [.type "Exception", .type "BaseException", .type "object"]
def refsEx : List Value → Bool
  | .ref _ :: r => refsEx r
  | l => l == exTail
theorem refsEx_two : ∀ l : List Value, refsEx l = true → (∃ c r, l = .ref c :: r ∧ refsEx r = true) ∨ l = exTail := fun l e => by
  unfold refsEx at e
  split at e
  · exact .inl ⟨_, _, rfl, e⟩
  · exact .inr (beq_iff_eq.mp e)
theorem refsEx_pass (self : Value) (l : List Value) : refsEx l = true → refuseLoop self "__setattr__" l = pure () := by
  induction l with
  | nil => intro e; exact absurd e (by decide)
  | cons a r ih =>
    intro e
    rcases refsEx_two (a :: r) e with ⟨c, r', q, h⟩ | q
    · injection q with q1 q2
      subst q1 q2
      rw [refuseLoop_ref]
      exact ih h
    · rw [q]
      exact F.store_Exception.passes self
theorem refsEx_has (X : String) (l : List Value) : refsEx l = true → l.contains (.type X) = exTail.contains (.type X) := by
  induction l with
  | nil => intro e; exact absurd e (by decide)
  | cons a r ih =>
    intro e
    rcases refsEx_two (a :: r) e with ⟨c, r', q, h⟩ | q
    · injection q with q1 q2
      subst q1 q2
      rw [List.contains_cons, ih h]
      rfl
    · rw [q]
theorem refsEx_some {l : List Value} (e : refsEx l = true) : l.isEmpty = false := by
  cases l with
  | nil => exact absurd e (by decide)
  | cons _ _ => rfl
section
open Builtin Builtin.ObjectAttr
variable {prog : Program} {w : World} {A : Around} {R : Result → Shared → Prop} {hp : Heap} {g : Array GenState} {d : Drawn} {t : Nat} {os : OsState}
theorem put_first {K : Frag} {name : Str} {tk : Tok} {v : Value} {x C : Addr} {fv : Array Value} {cd : ClassData}
    (X : K.In hp) (hx : hp.get? x = some { cls := .ref C, data := .fields fv }) (hcd : clsIn K C = some cd) (hm : refsEx cd.mro = true) (hh : cd.hasDict = true) (ha : findIn K (.ref C) name = some none)
    (want : ∀ h' tk' dx, (∀ b o, b ≠ x → hp.get? b = some o → h'.get? b = some o) → hp.objs.size ≤ dx → dx ≠ x → h'.get? x = some { cls := .ref C, dict := some dx, data := .fields fv } → h'.Ns1 dx (fun y => if y = name then some v else none) → R (.ok (.ret .none)) ⟨h', g, d, tk', os⟩) :
    codeAny (model prog w) A (.call (.builtin "object.__setattr__") ⟨[.ref x, .str name tk, v], []⟩) R ⟨hp, g, d, t, os⟩ := by
  have inst : InstAt hp x { cls := .ref C, data := .fields fv } C none := ⟨hx, rfl, rfl, trivial⟩
  have S0 := F.store_object
  have some_ := refsEx_some hm
  have obj : cd.mro.contains (.type "object") = true := (refsEx_has "object" _ hm).trans (by decide +kernel)
  have apart : x ≠ hp.objs.size := Nat.ne_of_lt (Heap.lt_size hx)
  have isObj : Looks (model prog w) hp (isInstance (.ref x) (.type "object")) true := inst.type.andThen (looks_mroIn X (by unfold mroIn; rw [hcd, Option.bind_some, if_neg (by rw [some_]; decide), obj]))
  refine codeAny_call_builtin S0.slot.plain S0.entry (@check_slot (model prog w) _ _ ⟨hp, g, d, t, os⟩ "object.__setattr__" "object" "__setattr__" (.ref x) [.str name tk, v] [] _ S0.kind S0.split isObj (S0.args (.ref x) (.str name tk) v) ?_)
  have mro_ : Looks (model prog w) hp (mroOf (.ref C)) cd.mro := (looks_clsIn X hcd).andThen .now
  have none_ : Looks (model prog w) hp (storeTaker? none) none := .now
  have data_ : Looks (model prog w) hp (classData C) cd := looks_clsIn X hcd
  rw [osa_eq, refuse_eq]
  refine wpAny_bind (wpAny_bind (inst.type.at (wpAny_bind (mro_.at ?_))))
  rw [refsEx_pass _ _ hm]
  refine wpAny_pure (wpAny_bind (inst.type.at (wpAny_bind ((looks_findIn X ha).at (wpAny_bind (none_.at ?_))))))
  show wpAny _ _ (storeInOwnDict (.ref x) (.ref C) (.str name tk) name v false) _ _ _
  obtain ⟨nm, bs, mro, ns, qn, hd, sn, sb, ab, col, del⟩ := cd
  dsimp only at hh
  subst hh
  unfold storeInOwnDict ownDictForStores
  repeat (first | with_reducible refine store_in_new ?_ ?_ | with_reducible refine wpAny_loadPart_at hx ?_ | with_reducible refine data_.at ?_ | wp_step)
  · exact ⟨_, #[], _, (Heap.get?_update_ne _ _ _ _ apart.symm).trans (Heap.get?_push_at rfl rfl), rfl, fun e he => absurd he (by simp), fun _ => rfl⟩
  · intro h' tk' hn' hs
    have keep1 : (hp.push { cls := .type "dict", data := .dict #[] }).get? x = some { cls := .ref C, data := .fields fv } := Heap.get?_push_of_some _ hx
    refine want h' tk' hp.objs.size (fun b o hb ho => ?_) (Nat.le_refl _) apart.symm ?_ hn'
    · exact (hs.2 b (Nat.ne_of_lt (Heap.lt_size ho))).trans ((Heap.get?_update_ne _ _ _ _ hb).trans (Heap.get?_push_of_some _ ho))
    · exact (hs.2 x apart).trans (Heap.get?_update_self _ keep1 rfl)
end
theorem ld_own {M : Model} {s : Shared} {name : Str} {scope : Scope} {L a : Addr} {cd : Value} {m : Str → Option Value} {x : Str} {pos : Pos} {v : Value} {Q : Value → Shared → Prop} {A : Around} {E : Value → Shared → Prop} (hn : s.heap.Ns L m) (hv : m x = some v) (h : Q v s)
    (hk : scope.kind = .function := by rfl) (hl : (envOfC name scope L a cd).kindOf x = some .local := by rfl) (hd : (x == ("__debug__" : Str)) = false := by decide) :
    wpAny M A (eval (.Name x pos) (envOfC name scope L a cd)) Q E s := wpAny_Name (wpAny_loadName_local hk hl hn hv h) hd
structure InitDone (h h' : Heap) (x C dx t1 : Addr) (f : Str) (v : Value) : Prop where
  keep : ∀ b o, b ≠ x → h.get? b = some o → h'.get? b = some o
  obj : h'.get? x = some { cls := .ref C, dict := some dx, data := .fields #[.ref t1, .none, .none, .none, .bool false, .none] }
  dbig : h.objs.size ≤ dx
  dne : dx ≠ x
  ns : h'.Ns1 dx (fun y => if y = f then some v else none)
structure MadeIs (h h' : Heap) (e C d : Addr) (f : Str) (v : Value) : Prop where
  keep : ∀ b o, h.get? b = some o → h'.get? b = some o
  new : h.objs.size ≤ e
  obj : ∃ oe vs, h'.get? e = some oe ∧ oe.cls = .ref C ∧ oe.dict = some d ∧ oe.data = .fields vs ∧ vs[1]? = some .none
  dbig : h.objs.size ≤ d
  dne : d ≠ e
  ns : h'.Ns1 d (fun y => if y = f then some v else none)
theorem sz1 (v : Value) : [v].length ≤ sizeLine := by
  rw [sizeLine_eq]
  exact (by decide : 1 ≤ 16777216)
structure ErrC (K : Frag) (C : Addr) (f : Str) : Prop where

  cls : ∃ nm q N bs bm sn sub ab col dd k0 k1 k2 k3 k5, K.lookup C = some (excClassObj nm q C N bs bm true sn sub ab col dd k0 k1 k2 k3 k5 "Exception.__new__") ∧ refsEx bm = true
  sa : findIn K (.ref C) "__setattr__" = some (some (.builtin "object.__setattr__"))
  ga : findIn K (.ref C) "__getattribute__" = some (some (.builtin "BaseException.__getattribute__"))
  gg : findIn K (.ref C) "__getattr__" = some none
  noN : findIn K (.ref C) f = some none
  kC : keepIn K (.ref C) = true
  exC : subIn K (.ref C) (.type "BaseException") = some true
  tyC : typeIn K (.ref C) = some (.type "type")
  hdC : hasDictIn K C = true
  /-- its __init__ runs -/
  ini : ∃ fI, findIn K (.ref C) "__init__" = some (some (.ref fI)) ∧ typeIn K (.ref fI) = some (.type "function") ∧
    ∀ (prog : Program) (w : World) (A : Around) (R : Result → Shared → Prop) (s : Shared) (x t0 : Addr) (v : Value), K.In s.heap → s.heap.NoLimit → s.heap.get? x = some (excO C t0) → K.lookup x = none → A.depth < recursionLimit →
      (∀ h' tk dx, InitDone s.heap h' x C dx t0 f v → R (.ok (.ret .none)) { s with heap := h', toks := tk }) → codeAny (model prog w) A (.call (.ref fI) ⟨[.ref x, v], []⟩) R s
def iA_at (p1 p2 : Pos) : Arguments := { posonlyargs := [], args := [{ arg := "self", annotation := none, pos := p1 }, { arg := "at", annotation := none, pos := p2 }], vararg := none, kwonlyargs := [], kw_defaults := [], kwarg := none, defaults := [] }
def iB_at (q1 q2 q3 q4 : Pos) : List Stmt := [.Assign [.Attribute (.Name "self" q1) "at" q2] (.Name "at" q3) q4]
def iS_at : Scope := { kind := .function, names := [(PySem.Str.ofString "self", .local), (PySem.Str.ofString "at", .local)], isGenerator := false, isCoroutine := false, more := [] }
theorem ini_at {K : Frag} {C fI : Addr} {qual : Str} {oc doc pm cdv ct : Value} {od an : Option Addr} {osl : Array (Option Value)} {p1 p2 q1 q2 q3 q4 : Pos}
    (fn : K.lookup fI = some ⟨oc, od, .func (fnOf "__init__" qual (iA_at p1 p2) (iB_at q1 q2 q3 q4) iS_at .none .none doc pm an cdv ct), osl⟩) (hcd : codeIn K cdv qual = true)
    (cls : ∃ nm q N bs bm sn sub ab col dd k0 k1 k2 k3 k5, K.lookup C = some (excClassObj nm q C N bs bm true sn sub ab col dd k0 k1 k2 k3 k5 "Exception.__new__") ∧ refsEx bm = true)
    (sa : findIn K (.ref C) "__setattr__" = some (some (.builtin "object.__setattr__"))) (noN : findIn K (.ref C) "at" = some none)
    {prog : Program} {w : World} {A : Around} {R : Result → Shared → Prop} {s : Shared} {x t0 : Addr} {v : Value} (X : K.In s.heap) (hlim : s.heap.NoLimit) (hx : s.heap.get? x = some (excO C t0)) (hnx : K.lookup x = none) (room : A.depth < recursionLimit)
    (want : ∀ h' tk dx, InitDone s.heap h' x C dx t0 "at" v → R (.ok (.ret .none)) { s with heap := h', toks := tk }) :
    codeAny (model prog w) A (.call (.ref fI) ⟨[.ref x, v], []⟩) R s := by
  obtain ⟨nm, q, N, bs, bm, sn, sub, ab, col, dd, k0, k1, k2, k3, k5, hC, hbm⟩ := cls
  have hcl : clsIn K C = some { name := nm, bases := bs, mro := .ref C :: bm, ns := N, qualname := q, hasDict := true, slotNames := sn, subclasses := sub, abstract := ab, collection := col, hasDel := false } := by
    unfold clsIn
    rw [hC]
    all_goals rfl
  refine Att.call_fn (binds := [("self", .ref x), ("at", v)]) X hlim fn hcd room (BindsTo.of_eq (by first | rfl | with_unfolding_all rfl)) (by first | rfl | decide | with_unfolding_all rfl) (fun s₁ IC => ?_) rfl rfl rfl
  obtain ⟨h₁, tk₁, rfl⟩ := IC.toInCall.same
  have k : ∀ b o, s.heap.get? b = some o → h₁.get? b = some o := IC.toInCall.keep
  have hn := IC.toInCall.ns
  have X₁ : K.In h₁ := X.keeps k
  have hx₁ := k _ _ hx
  show wpAny _ _ (execs _ _) _ _ _
  refine wpAny_execs_cons (plainObj_wpAny_Assign_Attribute ?_)
  refine ld_own (v := v) hn (by first | rfl | with_unfolding_all rfl | kernel_rfl) (ld_own (v := .ref x) hn (by first | rfl | with_unfolding_all rfl | kernel_rfl) ?_)
  refine set_plain X₁ (ox := excO C t0) (od := none) ⟨hx₁, rfl, rfl, trivial⟩ sa ?_
  refine put_first X₁ hx₁ hcl (show refsEx (.ref C :: bm) = true from hbm) rfl noN (fun h₃ tk₃ dx k₃ dn dne hx₃ hn₃ => ?_)
  show wpAny _ _ (execs _ _) _ _ _
  have z : s.heap.objs.size < h₁.objs.size := hn.lt
  exact wpAny_execs_nil (want h₃ tk₃ dx ⟨fun b o hb e => k₃ b o hb (k b o e), hx₃, Nat.le_of_lt (Nat.lt_of_lt_of_le z dn), dne, hn₃⟩)
def iA_word (p1 p2 : Pos) : Arguments := { posonlyargs := [], args := [{ arg := "self", annotation := none, pos := p1 }, { arg := "word", annotation := none, pos := p2 }], vararg := none, kwonlyargs := [], kw_defaults := [], kwarg := none, defaults := [] }
def iB_word (q1 q2 q3 q4 : Pos) : List Stmt := [.Assign [.Attribute (.Name "self" q1) "word" q2] (.Name "word" q3) q4]
def iS_word : Scope := { kind := .function, names := [(PySem.Str.ofString "self", .local), (PySem.Str.ofString "word", .local)], isGenerator := false, isCoroutine := false, more := [] }
theorem ini_word {K : Frag} {C fI : Addr} {qual : Str} {oc doc pm cdv ct : Value} {od an : Option Addr} {osl : Array (Option Value)} {p1 p2 q1 q2 q3 q4 : Pos}
    (fn : K.lookup fI = some ⟨oc, od, .func (fnOf "__init__" qual (iA_word p1 p2) (iB_word q1 q2 q3 q4) iS_word .none .none doc pm an cdv ct), osl⟩) (hcd : codeIn K cdv qual = true)
    (cls : ∃ nm q N bs bm sn sub ab col dd k0 k1 k2 k3 k5, K.lookup C = some (excClassObj nm q C N bs bm true sn sub ab col dd k0 k1 k2 k3 k5 "Exception.__new__") ∧ refsEx bm = true)
    (sa : findIn K (.ref C) "__setattr__" = some (some (.builtin "object.__setattr__"))) (noN : findIn K (.ref C) "word" = some none)
    {prog : Program} {w : World} {A : Around} {R : Result → Shared → Prop} {s : Shared} {x t0 : Addr} {v : Value} (X : K.In s.heap) (hlim : s.heap.NoLimit) (hx : s.heap.get? x = some (excO C t0)) (hnx : K.lookup x = none) (room : A.depth < recursionLimit)
    (want : ∀ h' tk dx, InitDone s.heap h' x C dx t0 "word" v → R (.ok (.ret .none)) { s with heap := h', toks := tk }) :
    codeAny (model prog w) A (.call (.ref fI) ⟨[.ref x, v], []⟩) R s := by
  obtain ⟨nm, q, N, bs, bm, sn, sub, ab, col, dd, k0, k1, k2, k3, k5, hC, hbm⟩ := cls
  have hcl : clsIn K C = some { name := nm, bases := bs, mro := .ref C :: bm, ns := N, qualname := q, hasDict := true, slotNames := sn, subclasses := sub, abstract := ab, collection := col, hasDel := false } := by
    unfold clsIn
    rw [hC]
    all_goals rfl
  refine Att.call_fn (binds := [("self", .ref x), ("word", v)]) X hlim fn hcd room (BindsTo.of_eq (by first | rfl | with_unfolding_all rfl)) (by first | rfl | decide | with_unfolding_all rfl) (fun s₁ IC => ?_) rfl rfl rfl
  obtain ⟨h₁, tk₁, rfl⟩ := IC.toInCall.same
  have k : ∀ b o, s.heap.get? b = some o → h₁.get? b = some o := IC.toInCall.keep
  have hn := IC.toInCall.ns
  have X₁ : K.In h₁ := X.keeps k
  have hx₁ := k _ _ hx
  show wpAny _ _ (execs _ _) _ _ _
  refine wpAny_execs_cons (plainObj_wpAny_Assign_Attribute ?_)
  refine ld_own (v := v) hn (by first | rfl | with_unfolding_all rfl | kernel_rfl) (ld_own (v := .ref x) hn (by first | rfl | with_unfolding_all rfl | kernel_rfl) ?_)
  refine set_plain X₁ (ox := excO C t0) (od := none) ⟨hx₁, rfl, rfl, trivial⟩ sa ?_
  refine put_first X₁ hx₁ hcl (show refsEx (.ref C :: bm) = true from hbm) rfl noN (fun h₃ tk₃ dx k₃ dn dne hx₃ hn₃ => ?_)
  show wpAny _ _ (execs _ _) _ _ _
  have z : s.heap.objs.size < h₁.objs.size := hn.lt
  exact wpAny_execs_nil (want h₃ tk₃ dx ⟨fun b o hb e => k₃ b o hb (k b o e), hx₃, Nat.le_of_lt (Nat.lt_of_lt_of_le z dn), dne, hn₃⟩)
section
variable {prog : Program} {w : World} {A : Around} {R : Result → Shared → Prop} {s : Shared} {K : Frag} {C : Addr} {f : Str}
theorem made_err (T : ErrC K C f) {v : Value} (X : K.In s.heap) (hlim : s.heap.NoLimit) (room : A.depth + 1 < recursionLimit)
    (want : ∀ h' tk e d, MadeIs s.heap h' e C d f v → R (.ok (.ret (.ref e))) { s with heap := h', toks := tk }) :
    codeAny (model prog w) A (.call (.ref C) ⟨[v], []⟩) R s := by
  obtain ⟨nm, q, N, bs, bm, sn, sub, ab, col, dd, k0, k1, k2, k3, k5, hC, hbm⟩ := T.cls
  obtain ⟨fI, iC, tI, run⟩ := T.ini
  obtain ⟨hp, g, dr, tk, os⟩ := s
  have k : ∀ b o, hp.get? b = some o → ((hp.push (kdv_tup [v])).push (excO C hp.objs.size)).get? b = some o := fun b o e => Heap.get?_push_of_some _ (Heap.get?_push_of_some _ e)
  have hget : ((hp.push (kdv_tup [v])).push (excO C hp.objs.size)).get? (hp.objs.size + 1) = some (excO C hp.objs.size) := by heap_get
  have fresh : K.lookup (hp.objs.size + 1) = none := by
    cases e : K.lookup (hp.objs.size + 1) with
    | none => rfl
    | some o => exact absurd (Nat.lt_of_succ_lt (Heap.lt_size (X _ _ e))) (Nat.lt_irrefl _)
  refine call_own F.excBase_Exception (fun X => refsEx_has X bm hbm) (X _ _ hC) (looks_findIn X iC) (fun self => bind_fn X self tI) (sz1 v) ?_
  refine run prog w _ _ ⟨(hp.push (kdv_tup [v])).push (excO C hp.objs.size), g, dr, tk, os⟩ _ _ v (X.keeps k) (hlim.keeps k) hget fresh room fun h' tk' dx ⟨k', hx, dn, dne, hns⟩ => ?_
  have old : ∀ b o, hp.get? b = some o → h'.get? b = some o := fun b o e => k' b o (Nat.ne_of_lt (Nat.lt_succ_of_lt (Heap.lt_size e))) (k b o e)
  have z : hp.objs.size + 1 + 1 ≤ dx := by
    have q := dn
    simp only [Heap.size_push] at q
    exact q
  exact ⟨rfl, want h' tk' (hp.objs.size + 1) dx ⟨old, Nat.le_succ _, ⟨_, _, hx, rfl, rfl, rfl, rfl⟩, Nat.le_trans (Nat.le_trans (Nat.le_succ _) (Nat.le_succ _)) z, dne, hns⟩⟩
end
end ErrX
end PySem
namespace L2
open PySem PySem.Spec PyProof.Rows
theorem relO_one {v : V} {v' : Value} {g : Str} (r : RelV v v') (f : Str) : RelO (List.lookup f [(g, v)]) (if f = g then some v' else none) := by
  by_cases hw : f = g
  · subst hw
    rw [if_pos rfl]
    have q : List.lookup f [(f, v)] = some v := by simp [List.lookup]
    rw [q]
    exact r
  · rw [if_neg hw]
    have qw : (f == g) = false := by simpa using hw
    have q2 : List.lookup f [(g, v)] = none := by simp [List.lookup, qw]
    rw [q2]
    trivial
section
variable {X : Cx} {C : Addr} {f : Str}
def tMkErr (C : Addr) (f : Str) (ta : TA) : L2.St → Hp → XK → Prop := fun σ H Q => ta σ H fun vs H1 => ∃ v, vs = [v] ∧ ∀ d, H1 d = none → Q (.ref C) (some d) (upd H1 d (.xd [(f, v)]))
theorem pmk_err {x : Str} {a : Expr} {ta : TA} {p pos : Pos} {k : Nat} (T : PySem.ErrX.ErrC X.K C f) (hm : X.mg x = some (.ref C)) (hr : Room k X.A) (ha : PA X [a] ta) (hg : Gl X x) (hdb : (x == ("__debug__" : Str)) = false := by decide)
    (he : starEach (a :: []) X.env = (false, eval a X.env) :: starEach [] X.env := by rfl) (hpl : (backTo pos (starEach [] X.env)).any (·.1) = false := by rfl) :
    PMk X (.Call (.Name x p) [a] [] pos) (tMkErr C f ta) := by
  intro pins s σ H Q I h
  refine wpAny_Call_Name_kw (ld_glob I hg hm ?_ hdb)
  refine PySem.W.callWith_K (h₀ := X.base) I.ok.mod.kin T.kC (thn (ha.run pos pins s σ H _ I h) fun us s1 hh => ?_) he hpl
  obtain ⟨vs, H1, I1, r1, v, ev, q1⟩ := hh
  subst ev
  refine ⟨I1.kIn, ?_⟩
  cases r1 with
  | cons rv rn =>
    rename_i v' us'
    cases rn
    show wpAny _ _ (call (.ref C) [v']) _ _ _
    have hlim := I1.nolimit
    obtain ⟨hp, g, dr, tk, os⟩ := s1
    refine wpAny_call (PySem.ErrX.made_err T I1.kIn hlim (by have := hr.dp; omega) fun h' tk' e d M => ?_)
    show MkP X pins σ Q (.ref e) ⟨h', g, dr, tk', os⟩
    obtain ⟨oe, fv, hoe, hc, hd, hdat, h1⟩ := M.obj
    have hns := M.ns
    obtain ⟨G', g1, g2⟩ := restrict h' fun b => decide (b ≠ e)
    have gk : ∀ b, b ≠ e → G'.get? b = h'.get? b := fun b hb => g1 b (decide_eq_true hb)
    have ge : G'.get? e = none := g2 e (by simp)
    have old : ∀ b o, hp.get? b = some o → G'.get? b = some o := fun b o q => (gk b (Nat.ne_of_lt (Nat.lt_of_lt_of_le (Heap.lt_size q) M.new))).trans (M.keep b o q)
    have ob : ObjOk X.prog X.w (upd H1 d (.xd [(f, v)])) G' d (.xd [(f, v)]) := ⟨_, hns.at (fun o q => (gk d M.dne).trans q), fun f => relO_one rv f⟩
    have J : Inv X pins σ (upd H1 d (.xd [(f, v)])) ⟨G', g, dr, tk', os⟩ := I1.laid (t' := tk') old M.dbig ob
    refine ⟨e, oe, fv, ⟨G', g, dr, tk', os⟩, _, .ref C, some d, rfl, J, fun b o q => ?_, ge, hoe, ⟨hc, hd⟩, hdat, h1, ?_, rfl, I1.bare, raises_own T.exC T.tyC, q1 d (I1.hok.fresh M.dbig)⟩
    · by_cases hb : b = e
      · have q' : G'.get? b = some o := q
        rw [hb, ge] at q'; cases q'
      · exact (gk b hb).symm.trans q
    · rw [upd_ne (Ne.symm M.dne)]
      exact I1.hok.fresh M.new
def tErrF (C : Addr) (f : Str) (a : Addr) (cls : Value) (d : Option Addr) (te : TE) : TE := fun σ H Q => te σ H fun x H1 => x = .ref a ∧ cls = .ref C ∧ ∃ (dd : Addr) (v : V), d = some dd ∧ H1 dd = some (.xd [(f, v)]) ∧ Q v H1
theorem pe_errF {a : Addr} {oe : Obj} {cls : Value} {d : Option Addr} {pn : List (Addr × Obj)} {e : Expr} {te : TE} {pos : Pos} (T : PySem.ErrX.ErrC X.K C f) (hz : Zc cls d oe) (hf : ∃ vs, oe.data = .fields vs) (he : PE (X.suite a ((a, oe) :: pn)) e te)
    (hb : attributeBase e f X.env (eval e X.env) = eval e X.env := by rfl) :
    PE (X.suite a ((a, oe) :: pn)) (.Attribute e f pos) (tErrF C f a cls d te) := by
  refine ⟨fun pins s σ H Q I h => ?_⟩
  refine attr_of hb (thn (he.run pins s σ H _ I h) fun u s1 hh => ?_)
  obtain ⟨x, H1, I1, rx, ex, ec, dd, v, ed, ea, q⟩ := hh
  subst ex
  obtain rfl : u = Value.ref a := rx
  subst ec
  subst ed
  obtain ⟨ha, _⟩ := I1.pin (a, oe) (List.mem_append_left _ List.mem_cons_self)
  obtain ⟨vs, hd⟩ := hf
  have hx : ObjOk X.prog X.w H1 s1.heap dd (.xd [(f, v)]) := I1.hok dd _ ea
  obtain ⟨mA, hns, hr⟩ := hx
  obtain ⟨od, ho, hl⟩ := lookIn_ns hns
  have l : List.lookup f [(f, v)] = some v := by simp [List.lookup]
  obtain ⟨u, hu, ru⟩ := RelO.some_of (v := v) (o := mA f) (by rw [← l]; exact hr f)
  have J : PySem.W.InstAt s1.heap a oe C (some od) := ⟨ha, hz.1, by unfold PySem.W.notCls; rw [hd] <;> rfl, by rw [hz.2]; exact ho⟩
  exact HandSPX.exc_get I1.kIn J T.ga T.gg T.exC (PySem.W.findObj_own T.hdC T.noN rfl (by rw [hl, hu])) (handed_of ru) ⟨v, H1, I1.tok _, ru, q⟩
end
end L2
namespace RB
open PySem PySem.Spec PyProof.Rows L2
section
variable {X : Cx} {Γ : Gf} {Wx : WX} {e a : Expr} {es : List Expr} {ea : Ev} {eas : Evs}
def sRaise (c : Nat) (a : Evs) : Sx := fun l st => xs (a l st) l fun ws st1 => match ws with | [w] => .exc c w l st1 | _ => .err
theorem qs_raise {c : Nat} {x : Str} {p pos pos2 : Pos} {k : Nat} (hK : X.K = Γ.K) (hc : X.calm = true) (T : PySem.ErrX.ErrC Γ.K (Γ.ec c) (Γ.fld c)) (hm : X.mg x = some (.ref (Γ.ec c))) (hr : Room k X.A) (tk : Takes X Wx) (hg : Gl X x) (ha : PA X [a] (tA Γ Wx eas))
    (hdb : (x == ("__debug__" : Str)) = false := by decide) (he : starEach (a :: []) X.env = (false, eval a X.env) :: starEach [] X.env := by rfl) (hpl : (backTo pos (starEach [] X.env)).any (·.1) = false := by rfl) : PS X (.Raise (some (.Call (.Name x p) [a] [] pos)) none pos2) (tS Γ Wx (sRaise c eas)) := by
  rw [← hK] at T
  exact PS_imp (ps_raise hc tk (pmk_err T hm hr ha hg hdb he hpl)) fun D σ H ⟨μ, l, st, hs, hl, h⟩ => tG_bindS hs hl h _ fun ws st1 μ1 H1 vs e1 s1 r1 h1 => by
    split at h1
    · rename_i w
      cases r1 with
      | @cons _ vv _ _ r t =>
        cases t
        refine ⟨_, rfl, fun d hd => ?_⟩
        have E : Ext Γ.K μ1 μ1 H1 (upd H1 d (.xd [(Γ.fld c, vv)])) := ext_upd (.inl hd)
        exact h1 _ _ _ _ _ E (s1.other hd) (hl.mono (e1.trans E)) (r.mono E) upd_same
    · exact h1.elim
def sTry (is : Nat → Option Bool) (g : W → W) (body : Sx) : Sx := fun l st => match body l st with
  | .exc c p l1 st1 => match is c with | some true => .rt (g p) st1 | some false => .exc c p l1 st1 | none => .err
  | r => r
def SuiteG (Γ : Gf) (X : Cx) (i : Nat) (f : Str) (g : W → W) (suite : List Stmt) : Prop := ∀ (k : Nat), Γ.fld k = f → PySem.ErrX.ErrC Γ.K (Γ.ec k) f → ∀ (a : Addr) (oe : Obj) (cls : Value) (d : Option Addr) (pn : List (Addr × Obj)), Zc cls d oe → (∃ vs, oe.data = .fields vs) →
  PSs (X.suite a ((a, oe) :: pn)) suite (fun D σ H => σ[i]? = some (some (.ref a)) ∧ cls = .ref (Γ.ec k) ∧ ∃ dd v μ st p, d = some dd ∧ H dd = some (.xd [(f, v)]) ∧ Sim Γ μ st H ∧ Rep Γ.K μ H p v ∧ ∀ μ' H' u, Ext Γ.K μ μ' H H' → Sim Γ μ' st H' → Rep Γ.K μ' H' (g p) u → D.rt u H')
theorem suite_pair {n : Str} {i : Nat} {f z : Str} {j j2 : Nat} {p0 p1 p2 p3 p4 : Pos} (hK : X.K = Γ.K) (hN : X.N[i]? = some n := by rfl) (hv : Vis X.env.scope n := by first | exact Or.inl rfl | exact Or.inr (Or.inl rfl) | exact Or.inr (Or.inr rfl)) (hd : (n == ("__debug__" : Str)) = false := by decide)
    (hcd : (n == ("__classdict__" : Str)) = false := by decide) : SuiteG Γ X i f (fun p => .tup [.str z, p]) [.Return (some (.Tuple [.Constant (.str z) j p0, .Attribute (.Name n p1) f p2] j2 p4)) p3] := fun k hk T a oe cls d pn hz hf => by
  rw [← hK] at T
  refine PSs_imp (pss_one (ps_ret (pe_tup (pa_cons pe_str (pa_cons (pe_errF T hz hf (pe_var (X := X.suite a ((a, oe) :: pn)) (i := i) hN hv hd hcd)) pa_nil))))) fun D σ H ⟨h1, h2, dd, v, μ, st, p, h3, h4, h5, h6, h7⟩ => ?_
  refine ⟨_, h1, rfl, h2, dd, v, h3, h4, le1000 (by simp), fun q hq => ?_⟩
  have E : Ext Γ.K μ μ H (upd H q (.tup [.str z, v])) := ext_upd (.inl hq)
  exact h7 _ _ _ E (h5.other hq) (.tup (.inl (.inl upd_same)) (.cons (.str z) (.cons (h6.mono E) .nil)))
end
end RB
namespace RB
open PySem PySem.Spec PyProof.Rows L2
def wPow (x y : W) (st : Sto) : Res W := match x, y with | .int a, .int b => if (decide (0 ≤ b) && decide (b ≤ 1000) && decide (a.natAbs < 2 ^ 60)) = true then .ok (.int (a ^ b.toNat)) st else .err | _, _ => .err
def wNeg (x : W) (st : Sto) : Res W := match x with | .int a => .ok (.int (-a)) st | _ => .err
def wMul (x y : W) (st : Sto) : Res W := match x, y with
  | .int a, .int b => if mulOk a b = true then .ok (.int (a * b)) st else .err
  | .tup ws, .int k => if (!ws.isEmpty && decide (2 ≤ k) && decide (k ≤ 1000) && decide (ws.length ≤ 1000)) = true then .ok (.tup (List.replicate k.toNat ws).flatten) st else if (!ws.isEmpty && k == 1) = true then .ok (.tup ws) st else .err
  | _, _ => .err
section
variable {X : Cx} {Γ : Gf} {Wx : WX} {e a b o tg iter elt : Expr} {es : List Expr} {ea eb eo : Ev} {eas : Evs}
theorem ok_pow : OpOk Γ (rI CPow fun i j => .int (i ^ j.toNat)) wPow := ok_int (fun _ _ _ _ _ => .int _) (fun i j st => by
  by_cases h : (decide (0 ≤ j) && decide (j ≤ 1000) && decide (i.natAbs < 2 ^ 60)) = true
  · refine .inl ⟨if_pos h, ?_⟩
    simp only [Bool.and_eq_true, decide_eq_true_eq] at h
    have h3 : i.natAbs < 2 ^ 64 := Nat.lt_trans h.2 (by decide)
    exact ⟨h.1.1, by omega, h3⟩
  · exact .inr (if_neg h)) (by intro x y st; cases x <;> cases y <;> first | exact .inr rfl | exact .inl ⟨_, _, rfl, rfl⟩)
theorem qe_neg {pos : Pos} (ha : PE X a (tE Γ Wx ea)) : PE X (.UnaryOp .USub a pos) (tE Γ Wx (eU wNeg ea)) :=
  PE_imp (pe_un un_neg ha) fun σ H Q ⟨μ, l, st, hs, hl, h⟩ => tG_bind hs hl h _ fun w st1 μ1 H1 v e1 s1 r1 h1 => by
    cases w with
    | int i => cases r1; exact ⟨i, rfl, h1.here s1 (.int _)⟩
    | _ => exact h1.elim
theorem int_rmul_tup1 (x : Int) (u : Tok) (l : Addr) (items : Array Value) (n : Nat) (dd : Option Addr) (sl : Array (Option Value)) (hx : x = 1) :
    Meets (Builtin.«tuple.__mul__» ⟨[.ref l, .int x u], []⟩) (fun _ R s => s.heap.get? l = some { cls := .type "tuple", dict := dd, data := .seq items n, slots := sl } ∧ R (.ok (.ret (Value.ref l))) s) :=
  .of_wp fun prog w A R s h => by
    obtain ⟨hp, g, d, tk, os⟩ := s
    obtain ⟨hl, h⟩ := h
    subst hx
    have f1 := AutoSeq1.idx_int
    wp_walk using AutoSeq1.wpAny_loadPart' hl
    exact ⟨_, rfl, h⟩
def rOne (K : PySem.W.Frag) : R2 := fun x y H Q => ∃ l xs, x = .ref l ∧ y = .int 1 ∧ SqT K H l xs ∧ Q (.ref l) H
theorem op_one : OpR X (binaryOp .Mult) (rOne X.K) := by
  intro ps st σ H x y v u Q I rx ry want
  obtain ⟨l, xs, rfl, rfl, hT, q⟩ := want
  cases rx
  obtain ⟨t, rfl⟩ := ry
  obtain ⟨its, r, ⟨⟨cls, dd, data, sl⟩, ho, hc, n, hd⟩, _⟩ := I.tuple hT
  simp only at hc hd
  subst hc hd
  exact wpAny_binaryOp_repeat_ref (T := "tuple") (U := "int") (by decide) ⟨_, ho, rfl⟩ (fun s' => typeIs_int s' 1 t) noFill_tuple_mul F.fills_int_mul F.slot_int_rmul repeat_tuple F.slot_int_index.lookup
    (call_meets F.slot_int_rmul (typeIs_int st 1 t) F.entry_int_rmul (F.args_int_rmul_2 _ _) (int_rmul_tuple 1 t l its.toArray n dd sl)
      ⟨ho, rfl, ⟨_, ho, rfl⟩, call_meets F.slot_tuple_mul ⟨_, ho, rfl⟩ F.entry_tuple_mul (F.args_tuple_mul_2 _ _) (int_rmul_tup1 1 t l its.toArray n dd sl rfl) ⟨ho, ⟨.ref l, H, I, rfl, q⟩⟩⟩)
abbrev rMulQ (K : PySem.W.Frag) : R2 := fun x y H Q => rI CMulX (fun i j => .int (i * j)) x y H Q ∨ (rRepT K x y H Q ∨ rOne K x y H Q)
theorem op_mulQ : OpR X (binaryOp .Mult) (rMulQ X.K) := .or op_mulX (.or op_repT op_one)
theorem Reps.rep {K : PySem.W.Frag} {μ : List Addr} {H : Hp} {ws : List W} {xs : List V} (r : Reps K μ H ws xs) : ∀ k : Nat, Reps K μ H (List.replicate k ws).flatten (List.replicate k xs).flatten
  | 0 => by simpa using Reps.nil
  | k + 1 => by rw [List.replicate_succ, List.replicate_succ, List.flatten_cons, List.flatten_cons]; exact r.append (Reps.rep r k)
theorem ok_mul (hK : X.K = Γ.K) : OpOk Γ (rMulQ X.K) wMul := fun Wx μ σ H st wx wy x y Q hs rx ry h => by
  rw [hK]
  cases wx with
  | int a =>
    cases wy with
    | int b =>
      simp only [wMul] at h
      split at h
      · rename_i q
        cases rx; cases ry
        exact .inl ⟨a, b, rfl, rfl, mulOk_ok q, h.here hs (.int _)⟩
      · exact h.elim
    | _ => exact h.elim
  | tup ws =>
    cases wy with
    | int k =>
      simp only [wMul] at h
      cases rx with
      | tup q1 q2 =>
        rename_i aa xs
        cases ry
        split at h
        · rename_i q
          simp only [Bool.and_eq_true, decide_eq_true_eq, Bool.not_eq_true'] at q
          refine .inr (.inl ⟨_, k, xs, rfl, rfl, q1, fun e => ?_, q.1.1.2, q.1.2, by rw [← q2.length]; exact q.2, fun p hp => ?_⟩)
          · subst e; cases q2; simp at q
          · have E : Ext Γ.K μ μ H (upd H p (.tup (List.replicate k.toNat xs).flatten)) := ext_upd (.inl hp)
            exact h _ _ _ E (hs.other hp) (.tup (.inl (.inl upd_same)) ((q2.rep _).mono E))
        · split at h
          · rename_i q
            simp only [Bool.and_eq_true, beq_iff_eq] at q
            rw [q.2]
            exact .inr (.inr ⟨_, xs, rfl, rfl, q1, h.here hs (.tup q1 q2)⟩)
          · exact h.elim
    | _ => exact h.elim
  | _ => exact h.elim
theorem q_add {pos : Pos} (hK : X.K = Γ.K) (ha : PE X a (tE Γ Wx ea)) (hb : PE X b (tE Γ Wx eb)) : PE X (.BinOp a .Add b pos) (tE Γ Wx (eBin wAdd ea eb)) := qe_bin op_addQ (ok_add hK) ha hb
theorem q_sub {pos : Pos} (ha : PE X a (tE Γ Wx ea)) (hb : PE X b (tE Γ Wx eb)) : PE X (.BinOp a .Sub b pos) (tE Γ Wx (eBin wSub ea eb)) := qe_bin op_sub ok_sub ha hb
theorem q_mul {pos : Pos} (hK : X.K = Γ.K) (ha : PE X a (tE Γ Wx ea)) (hb : PE X b (tE Γ Wx eb)) : PE X (.BinOp a .Mult b pos) (tE Γ Wx (eBin wMul ea eb)) := qe_bin op_mulQ (ok_mul hK) ha hb
theorem q_div {pos : Pos} (ha : PE X a (tE Γ Wx ea)) (hb : PE X b (tE Γ Wx eb)) : PE X (.BinOp a .FloorDiv b pos) (tE Γ Wx (eBin wDiv ea eb)) := qe_bin op_fdivW ok_div ha hb
theorem q_mod {pos : Pos} (ha : PE X a (tE Γ Wx ea)) (hb : PE X b (tE Γ Wx eb)) : PE X (.BinOp a .Mod b pos) (tE Γ Wx (eBin wMod ea eb)) := qe_bin op_mod ok_mod ha hb
theorem q_pow {pos : Pos} (ha : PE X a (tE Γ Wx ea)) (hb : PE X b (tE Γ Wx eb)) : PE X (.BinOp a .Pow b pos) (tE Γ Wx (eBin wPow ea eb)) := qe_bin op_pow ok_pow ha hb
theorem un64 {A : Around} {k : Nat} (h : Room k A) : A.units + 64 < cLine := by have := h.un; omega
theorem un65 {A : Around} {k : Nat} (h : Room k A) : A.units + 65 < cLine := by have := h.un; omega
structure CmpQ (X : Cx) (Γ : Gf) (o : CmpOp) (op : W → W → Sto → Res W) : Prop where
  ex : ∃ r, OpR X (compareOp o) r ∧ OpOk Γ r op
theorem c_eq {k : Nat} (hK : X.K = Γ.K) (h : Room k X.A) : CmpQ X Γ .Eq wEq := ⟨_, op_eqD (un64 h), ok_eq hK⟩
theorem c_ne {k : Nat} (hK : X.K = Γ.K) (h : Room k X.A) : CmpQ X Γ .NotEq wNe := ⟨_, op_neD (un64 h), ok_ne hK⟩
theorem c_in {k : Nat} (hK : X.K = Γ.K) (h : Room k X.A) : CmpQ X Γ .In wIn := ⟨_, op_inQ (un65 h), ok_in hK⟩
theorem c_notIn {k : Nat} (hK : X.K = Γ.K) (h : Room k X.A) : CmpQ X Γ .NotIn wNotIn := ⟨_, op_notInQ (un65 h), ok_notIn hK⟩
theorem c_lt : CmpQ X Γ .Lt wLt := ⟨_, op_lt, ok_lt⟩
theorem c_le : CmpQ X Γ .LtE wLe := ⟨_, op_le, ok_le⟩
theorem c_gt : CmpQ X Γ .Gt wGt := ⟨_, op_gt, ok_gt⟩
theorem c_ge : CmpQ X Γ .GtE wGe := ⟨_, op_ge, ok_ge⟩
theorem c_is : CmpQ X Γ .Is wIsN := ⟨_, op_isN, ok_isN⟩
theorem c_isNot : CmpQ X Γ .IsNot wNotN := ⟨_, op_notN, ok_notN⟩
theorem q_cmp {o : CmpOp} {op : W → W → Sto → Res W} {pos : Pos} (c : CmpQ X Γ o op) (ha : PE X a (tE Γ Wx ea)) (hb : PE X b (tE Γ Wx eb)) (hm : behindInMarks o b = false := by rfl) : PE X (.Compare a [o] [b] pos) (tE Γ Wx (eBin op ea eb)) := by
  obtain ⟨r, h1, h2⟩ := c.ex
  exact qe_cmp h1 h2 ha hb hm
theorem t_cmp {o : CmpOp} {op : W → W → Sto → Res W} {pos : Pos} (c : CmpQ X Γ o op) (ha : PE X a (tE Γ Wx ea)) (hb : PE X b (tE Γ Wx eb)) (hm : behindInMarks o b = false := by rfl) : PT X (.Compare a [o] [b] pos) (tT Γ Wx (bVal (eBin op ea eb))) := by
  obtain ⟨r, h1, h2⟩ := c.ex
  exact qt_cmp h1 h2 ha hb hm
theorem q_chain {c : Expr} {ec : Ev} {o o' : CmpOp} {op op' : W → W → Sto → Res W} {pos : Pos} (k : CmpQ X Γ o op) (k' : CmpQ X Γ o' op') (ha : PE X a (tE Γ Wx ea)) (hb : PE X b (tE Γ Wx eb)) (hc : PE X c (tE Γ Wx ec)) (hm : lastMarks [o, o'] [b, c] = false := by rfl) :
    PE X (.Compare a [o, o'] [b, c] pos) (tE Γ Wx (eChain op op' ea eb ec)) := by
  obtain ⟨r, h1, h2⟩ := k.ex
  obtain ⟨r', h1', h2'⟩ := k'.ex
  exact qe_chain h1 h2 h1' h2' ha hb hc hm
theorem q_gint {x : Str} {i : Int} {pos : Pos} (hg : Gl X x) (hm : ∃ t, X.mg x = some (.int i t)) (hd : (x == ("__debug__" : Str)) = false := by decide) : PE X (.Name x pos) (tE Γ Wx (eLit (.int i))) := by
  obtain ⟨t, hm⟩ := hm
  exact qe_glob (v := .int i) hg hm ⟨t, rfl⟩ (fun _ _ => .int i) hd
def noX (r : Res W) : Res W := match r with | .ok w st => .ok w st | _ => .err
theorem takesX {CX : CXT} : Takes X W0 := L2.takes0
end
section
variable {P : Program} {w : World} {K : PySem.W.Frag} {mg : Str → Option Value} {base : Heap} {cl ec : Nat → Addr} {fld : Nat → Str}
theorem q_okD {x qual : Str} {params : Arguments} {body : List Stmt} {scope : Scope} {dvs : List V} {kws : List (Str × V)} {f : Addr} {fd : FuncData} {N ps : List Str} {k np n : Nat} {sx : Sx} (F : L2.FunD K x qual params body scope dvs kws f fd) (S : FnScope N ps scope) (hn : N.length = n) (hp : ps.length = np)
    (hbody : ∀ (b : Nat) (q : Nat → Nat) (cdv : Value) (A : Around) (outer : List Env) (s : Shared) (H : Hp) (E : XK), Room k (A.deeper (envOfC qual scope s.heap.objs.size f cdv)) →
      PSs (cxOf (L2.CX P w) P w K mg base N qual scope f cdv A outer s H E) body (tS ⟨⟨K, cl, ec, fld⟩, b, q⟩ (fun cls d _ H => E cls d H) sx)) : FnOk P w K mg base (L2.CX P w) (k + 1) f fd ps (spF ⟨K, cl, ec, fld⟩ np (defn n sx)) := by
  exact F.ok S (fun vs H Q E h => by rw [hp]; exact spF_len h) (fun cdv A outer s H vs Q E hr h => let ⟨b, q, h⟩ := body_run (hn := hn) h; ⟨_, hbody b q cdv A outer s H E hr, h⟩)
end
end RB
namespace RB
open PySem PySem.Spec PyProof.Rows L2
end RB
namespace RB
open PySem PySem.Spec PyProof.Rows L2
def spL (K : PySem.W.Frag) : Sp := fun vs H Q _ => ∃ (a : Addr) (ns : List Int), vs = [.ref a] ∧ SqL K H a (ns.map V.int) ∧ Only H ∧ ns.length ≤ 63 ∧ (∀ z ∈ ns, Builtin.Int.intBits z ≤ 1048576) ∧ ∀ H', Q (.bl true) H'
def Runs (F : List W → Sto → Res W) : Prop := ∀ ns : List Int, ns.length ≤ 63 → (∀ z ∈ ns, Builtin.Int.intBits z ≤ 1048576) → ∃ st', F [.ref 0] ⟨[.scr (ns.map .int)], none⟩ = .ok (.bl true) st'
theorem ints_low (n : Nat) : ∀ ns : List Int, W.lows n (ns.map W.int) = true
  | [] => rfl
  | _ :: r => by show (W.low n (W.int _) && W.lows n (r.map W.int)) = true; rw [ints_low n r]; rfl
section
variable {P : Program} {w : World} {K : PySem.W.Frag} {mg : Str → Option Value} {base : Heap} {cl ec : Nat → Addr} {fld : Nat → Str}
theorem law_ok {CX : CXT} {k : Nat} {f : Addr} {fd : FuncData} {ps : List Str} {F : List W → Sto → Res W} (hF : Runs F) (G : FnOk P w K mg base CX k f fd ps (spF ⟨K, cl, ec, fld⟩ 1 F)) : FnOk P w K mg base CX k f fd ps (spL K) := by
  refine G.imp fun vs H Q E ⟨a, ns, ev, hS, hO, hl, hbits, k⟩ => ?_
  subst ev
  obtain ⟨st', e⟩ := hF ns hl hbits
  refine ⟨[a], [.scr (ns.map .int)], [.ref 0], fun i => i, ⟨rfl, ?_, ?_, ?_, Nat.le_refl _, fun i hi => ⟨Nat.le_refl i, Nat.le_of_lt hi⟩, fun i _ => rfl⟩, .cons (.ref rfl) .nil, rfl, ?_⟩
  · intro i j x c d hi hj ci
    cases i with
    | zero => cases hi; cases ci
    | succ i => cases hi
  · intro i c x hi hx
    cases i with
    | succ i => cases hi
    | zero =>
      cases hi; cases hx
      refine ⟨ns.map V.int, ?_, Reps.of_ints ns⟩
      rcases hS with hS | hS
      · rcases hO a with q | ⟨o, xs, q⟩
        · rcases hS with hS | ⟨o, hS⟩
          · rw [q] at hS; cases hS
          · rw [q] at hS; cases hS
        · rcases hS with hS | ⟨o', hS⟩
          · rw [q] at hS; cases hS
          · exact .inr ⟨o', hS⟩
      · exact .inl hS
  · intro i c hi _
    cases i with
    | succ i => cases hi
    | zero => cases hi; exact ints_low _ ns
  · rw [e]
    intro μ' H' b _ _ r
    cases r
    exact k H'
theorem fn_mk1 {k np : Nat} {x : Str} {f : Addr} {fd : FuncData} {ps : List Str} {F : List W → Sto → Res W} (G : FnOk P w K mg base (L2.CX P w) k f fd ps (spF ⟨K, cl, ec, fld⟩ np F)) (mk : Mark F) (hm : mg x = some (.ref f)) (hk : PySem.W.keepIn K (.ref f) = true) (hb : L2.Binds K fd ps []) : Fn ⟨K, cl, ec, fld⟩ P w mg base k x np [] F :=
  ⟨⟨f, fd, ps, [], [], G, hm, hk, hb, .nil, fun _ _ => .nil⟩, mk⟩
theorem fnI_mk1 {k np c : Nat} {x : Str} {f : Addr} {fd : FuncData} {ps : List Str} {ds : List Value} {F : List W → Sto → Res W} (G : FnOk P w K mg base (L2.CX P w) k f fd ps (spF ⟨K, cl, ec, fld⟩ np F)) (mk : Mark F) (M : Mk K (cl c) f) (hm : mg x = some (.ref (cl c))) (hb : L2.Binds K fd ps ds) (hd : Vals [] ds) : FnI ⟨K, cl, ec, fld⟩ P w mg base k x c np [] F :=
  ⟨⟨f, fd, ps, ds, [], G, M, hm, hb, hd, fun _ _ => .nil⟩, mk⟩
theorem mk_err_at {C fI : Addr} {qual : Str} {oc doc pm cdv ct : Value} {od an : Option Addr} {osl : Array (Option Value)} {p1 p2 q1 q2 q3 q4 : Pos} {nm q : Str} {N : Addr} {bs bm : List Value} {sn : List Str} {sub : List Value} {ab : Bool} {col : Option Bool} {dd : Option Addr} {k0 k1 k2 k3 k5 : Option Value}
    (cls : K.lookup C = some (excClassObj nm q C N bs bm true sn sub ab col dd k0 k1 k2 k3 k5 "Exception.__new__")) (hbm : PySem.ErrX.refsEx bm = true)
    (sa : PySem.W.findIn K (.ref C) "__setattr__" = some (some (.builtin "object.__setattr__"))) (ga : PySem.W.findIn K (.ref C) "__getattribute__" = some (some (.builtin "BaseException.__getattribute__"))) (gg : PySem.W.findIn K (.ref C) "__getattr__" = some none)
    (noN : PySem.W.findIn K (.ref C) "at" = some none) (kC : PySem.W.keepIn K (.ref C) = true) (exC : PySem.W.subIn K (.ref C) (.type "BaseException") = some true) (tyC : PySem.W.typeIn K (.ref C) = some (.type "type")) (hdC : PySem.W.hasDictIn K C = true)
    (iI : PySem.W.findIn K (.ref C) "__init__" = some (some (.ref fI))) (tI : PySem.W.typeIn K (.ref fI) = some (.type "function"))
    (fn : K.lookup fI = some ⟨oc, od, .func (PySem.W.fnOf "__init__" qual (PySem.ErrX.iA_at p1 p2) (PySem.ErrX.iB_at q1 q2 q3 q4) PySem.ErrX.iS_at .none .none doc pm an cdv ct), osl⟩) (hcd : PySem.W.codeIn K cdv qual = true) : PySem.ErrX.ErrC K C "at" :=
  { cls := ⟨_, _, _, _, _, _, _, _, _, _, _, _, _, _, _, cls, hbm⟩, sa := sa, ga := ga, gg := gg, noN := noN, kC := kC, exC := exC, tyC := tyC, hdC := hdC,
    ini := ⟨fI, iI, tI, fun prog w A R s x t0 v X hlim hx hnx room want => PySem.ErrX.ini_at fn hcd ⟨_, _, _, _, _, _, _, _, _, _, _, _, _, _, _, cls, hbm⟩ sa noN X hlim hx hnx room want⟩ }
end
theorem kit_more {K : PySem.W.Frag} {t c : Value} {r : List Value} {b : Bool} (h : PySem.W.kitAny K t [c] = some false) (q : PySem.W.kitAny K t r = some b) : PySem.W.kitAny K t (c :: r) = some b := by
  unfold PySem.W.kitAny at h ⊢
  cases e : PySem.W.kitOne K t c with
  | none => rw [e] at h; cases h
  | some x => cases x with
    | true => rw [e] at h; cases h
    | false => exact q
theorem kit_1 {K : PySem.W.Frag} {C : Addr} {T : String} {b : Bool} (h : PySem.W.subIn K (.ref C) (.type T) = some b) (m : PySem.W.kitMeta T = true) : PySem.W.kitAny K (.ref C) [.type T] = some b := by
  unfold PySem.W.kitAny PySem.W.kitOne
  rw [if_neg (by intro q; cases q)]
  unfold PySem.W.kitCls
  simp only [m, h, if_true]
  cases b <;> rfl
end RB
namespace RB
open PySem PySem.Spec PyProof.Rows L2
def andThen (r : Res Unit) (k : Sto → Res Unit) : Res Unit := match r with | .ok _ st => k st | _ => .err
end RB
namespace RB
open PySem PySem.Spec PyProof.Rows L2
section
variable {X : Cx} {Γ : Gf} {Wx : WX} {e a b o tg iter elt : Expr} {es : List Expr} {ea eb eo : Ev} {eas : Evs}
def KTup (K : PySem.W.Frag) (a : Addr) (ns : List Int) : Prop := ∃ (o : Obj) (its : Array Value) (n : Nat), K.lookup a = some o ∧ o.cls = .type "tuple" ∧ o.data = .seq its n ∧ its.size ≤ sizeLine ∧ Vals (ns.map V.int) its.toList
theorem KTup.rep {K : PySem.W.Frag} {a : Addr} {ns : List Int} (h : KTup K a ns) (μ : List Addr) (H : Hp) : Rep K μ H (.tup (ns.map .int)) (.ref a) := .tup (.inr h) (Reps.of_ints ns)
end
end RB
namespace RB
open PySem PySem.Spec PyProof.Rows L2
open PySem.W (dataLe TotalLe sameRank EachIs)
end RB
namespace RB
open PySem PySem.Spec PyProof.Rows L2
end RB
namespace RPm
open PySem PySem.Spec PyProof.Rows L2
open Sem (wp)
section
variable {prog : Program} {w : World} {A : Around} {E : Value → Shared → Prop} {s : Shared} {I T : Addr} {n ph : Nat} {r : Value} {xs ys : List Nat} {items : Array Value}
def pick (items : Array Value) (ix : List Nat) : Array Value := (ix.map fun i => items.getD i .none).toArray
end
end RPm
namespace RPm
open PySem PySem.Spec PyProof.Rows L2
open Sem (wp)
structure Md (items : Array Value) (S I : Addr) (h : Heap) (dn : List (List Nat)) (as : List Addr) : Prop where
  len : as.length = dn.length
  rise : as.Pairwise (· < ·)
  above : ∀ a ∈ as, I < a ∧ S < a
  at' : ∀ (j : Nat) (a : Addr) (ix : List Nat), as[j]? = some a → dn[j]? = some ix → h.get? a = some { cls := .type "tuple", data := .seq (pick items ix) }
theorem Md.there {items : Array Value} {S I : Addr} {h : Heap} {dn : List (List Nat)} {as : List Addr} (g : Md items S I h dn as) {a : Addr} (ha : a ∈ as) : a < h.objs.size := by
  obtain ⟨j, hj⟩ := List.mem_iff_getElem?.mp ha
  have h1 := (List.getElem?_eq_some_iff.mp hj).1
  rw [g.len] at h1
  exact Heap.lt_size (g.at' j a _ hj (List.getElem?_eq_getElem h1))
theorem Md.keep {items : Array Value} {S I : Addr} {h h' : Heap} {dn : List (List Nat)} {as : List Addr} (g : Md items S I h dn as) (k : ∀ b o, b ≠ S → b ≠ I → h.get? b = some o → h'.get? b = some o) : Md items S I h' dn as :=
  ⟨g.len, g.rise, g.above, fun j a ix h1 h2 => k a _ (Nat.ne_of_gt (g.above a (List.mem_of_getElem? h1)).2) (Nat.ne_of_gt (g.above a (List.mem_of_getElem? h1)).1) (g.at' j a ix h1 h2)⟩
end RPm
namespace RB
open PySem PySem.Spec PyProof.Rows L2
end RB
namespace L2
open PySem PySem.Spec PyProof.Rows HT
end L2
namespace RB
open PySem PySem.Spec PyProof.Rows L2
end RB
namespace RB
open PySem PySem.W L2 PySem.Spec PyProof.Rows
end RB
namespace PySem
open PyProof.Rows L2
end PySem
namespace RB
open PySem PySem.Spec PyProof.Rows L2
end RB
namespace RB
open PySem PySem.Spec PyProof.Rows L2
def ItOn (t : Bool) (h : Heap) (i l : Addr) (k : Nat) : Prop := match t with | true => h.IsTupleIter i l k | false => h.IsListIter i l k
def SqOn (t : Bool) (h : Heap) (l : Addr) (xs : Array Value) : Prop := match t with | true => h.IsTuple l xs | false => h.IsList l xs
section
variable {prog : Program} {w : World} {A : Around} {E : Value → Shared → Prop} {s : Shared} {t u : Bool}
theorem ItOn.at {h h' : Heap} {i l : Addr} {k : Nat} (x : ItOn t h i l k) (e : ∀ o, h.get? i = some o → h'.get? i = some o) : ItOn t h' i l k := by
  cases t
  · exact Heap.IsListIter.at x e
  · exact Heap.IsTupleIter.at x e
theorem ItOn.lt {h : Heap} {i l : Addr} {k : Nat} (x : ItOn t h i l k) : i < h.objs.size := by
  cases t
  · obtain ⟨_, e, _⟩ := x; exact Heap.lt_size e
  · obtain ⟨_, e, _⟩ := x; exact Heap.lt_size e
theorem SqOn.lt {h : Heap} {l : Addr} {xs : Array Value} (x : SqOn t h l xs) : l < h.objs.size := by
  cases t
  · obtain ⟨_, e, _⟩ := x; exact Heap.lt_size e
  · obtain ⟨_, e, _⟩ := x; exact Heap.lt_size e
theorem ItOn.obj {h : Heap} {i l : Addr} {k : Nat} (x : ItOn t h i l k) : ∃ o, h.get? i = some o ∧ ∀ v, o.data ≠ .cell v := by
  cases t
  · obtain ⟨o, e, _, d⟩ := x; exact ⟨o, e, fun v q => by rw [d] at q; cases q⟩
  · obtain ⟨o, e, _, d⟩ := x; exact ⟨o, e, fun v q => by rw [d] at q; cases q⟩
theorem nextOn_end {it l : Addr} {i : Nat} {xs : Array Value} {Q : Value → Shared → Prop} (hh : A.handled = none) (hi : ItOn t s.heap it l i) (hl : SqOn t s.heap l xs) (hx : xs[i]? = none)
    (k : ∀ h' e, Heap.ExtBut it s.heap h' → (∃ o, h'.get? e = some o ∧ o.cls = .type "StopIteration") → E (.ref e) { s with heap := h' }) : wpAny (model prog w) A (Builtin.SmallTypes.nextOf (.ref it)) Q E s := by
  cases t
  · exact wpAny_nextOf_list_end hh hi hl hx k
  · exact RZ.nextOf_tuple_end hh hi hl hx k
variable {q tA tB i1 i2 l1 l2 : Addr} {k1 k2 : Nat} {xs ys : Array Value} {x y a b : Value}
end
end RB
namespace RB
open PySem PySem.Spec PyProof.Rows L2
def itObj (t : Bool) (l : Addr) : Obj := { cls := .type (match t with | true => "tuple_iterator" | false => "list_iterator"), data := .fields #[.ref l, .int 0 0] }
section
variable {prog : Program} {w : World} {A : Around} {E : Value → Shared → Prop} {s : Shared} {t u : Bool} {l l1 l2 : Addr} {xs ys : Array Value}
theorem iterOn {Q : Value → Shared → Prop} (h : SqOn t s.heap l xs) (k : Q (.ref s.heap.objs.size) { s with heap := s.heap.push (itObj t l) }) : wpAny (model prog w) A (pyIter (.ref l)) Q E s := by
  cases t
  · exact wpAny_pyIter_list h k
  · exact wpAny_pyIter_tuple h k
theorem SqOn.push {h : Heap} (x : SqOn t h l xs) (o : Obj) : SqOn t (h.push o) l xs := by
  cases t
  · exact Heap.IsList.push x _
  · exact Heap.IsTuple.push x _
theorem itObj_at {h : Heap} {i : Addr} (e : h.get? i = some (itObj t l)) : ItOn t h i l 0 := by
  cases t
  · exact ⟨_, e, rfl, rfl⟩
  · exact ⟨_, e, rfl, rfl⟩
end
def SqK (t : Bool) (K : PySem.W.Frag) (H : Hp) (a : Addr) (xs : List V) : Prop := match t with | true => SqT K H a xs | false => SqL K H a xs
section
variable {X : Cx} {pins : List (Addr × Obj)} {σ : L2.St} {H : Hp} {s : Shared} {t u : Bool}
theorem SqK.laid {a : Addr} {xs : List V} (I : L2.Inv X pins σ H s) (h : SqK t X.K H a xs) : ∃ its : List Value, Vals xs its ∧ SqOn t s.heap a its.toArray ∧ xs.length ≤ sizeLine := by
  cases t
  · obtain ⟨its, r, p, z⟩ := I.list h
    exact ⟨its, r, p.isList, z⟩
  · obtain ⟨its, r, p, z⟩ := I.tuple h
    exact ⟨its, r, p, z⟩
theorem SqK.same {a : Addr} {xs ys : List V} (I : L2.Inv X pins σ H s) (h : SqK t X.K H a xs) (h' : SqK t X.K H a ys) : xs = ys := by
  cases t
  · exact I.list_inj h h'
  · exact I.tuple_inj h h'
end
section
variable {X : Cx} {Γ : Gf} {Wx : WX} {a b : Expr} {eas : Evs}
def srcOf (st : Sto) : W → Option Src
  | .tup ws => some (.fix ws)
  | .ref n => match getL st n with | some _ => some (.live n) | none => none
  | _ => none
def SrcOk (Γ : Gf) (t : Bool) (a : Addr) (s : Src) (μ : List Addr) (H : Hp) : Prop := ∀ μ' H' st', Ext Γ.K μ μ' H H' → Sim Γ μ' st' H' → ∀ i o, s.at st' i = some o → ∃ xs, SqK t Γ.K H' a xs ∧ match o with
  | some w => ∃ v, xs[i]? = some v ∧ Rep Γ.K μ' H' w v
  | none => xs.length ≤ i
theorem srcOf_ok {μ : List Addr} {H : Hp} {st : Sto} {w : W} {v : V} {s : Src} (hs : Sim Γ μ st H) (h : srcOf st w = some s) (r : Rep Γ.K μ H w v) : ∃ (t : Bool) (a : Addr) (xs : List V), v = .ref a ∧ SqK t Γ.K H a xs ∧ SrcOk Γ t a s μ H := by
  cases w with
  | tup ws =>
    cases h
    cases r with
    | tup q1 q2 =>
      rename_i a xs
      refine ⟨true, a, xs, rfl, q1, fun μ' H' st' e s' i o ho => ⟨xs, e.tup _ _ q1, ?_⟩⟩
      have q3 := q2.mono e
      have ho : some ws[i]? = some o := ho
      cases ho
      cases ew : ws[i]? with
      | none => exact by rw [← q2.length]; exact List.getElem?_eq_none_iff.mp ew
      | some w => obtain ⟨v, z1, z2⟩ := q3.get ew; exact ⟨v, z1, z2⟩
  | ref n =>
    unfold srcOf at h
    dsimp only at h
    cases eg : getL st n with
    | none => rw [eg] at h; cases h
    | some ws =>
      rw [eg] at h
      cases h
      cases r with
      | ref hm =>
        rename_i a
        obtain ⟨xs, q1, q2⟩ := getLive hs hm eg
        refine ⟨false, a, xs, rfl, q1, fun μ' H' st' e s' i o ho => ?_⟩
        have ho : (getL st' n).map (·[i]?) = some o := ho
        cases eg' : getL st' n with
        | none => rw [eg'] at ho; cases ho
        | some ws' =>
          rw [eg'] at ho
          cases ho
          obtain ⟨xs', q3, q4⟩ := getLive s' (e.pre _ _ hm) eg'
          refine ⟨xs', q3, ?_⟩
          show match ws'[i]? with | some w => _ | none => _
          cases ew : ws'[i]? with
          | none => exact by rw [← q4.length]; exact List.getElem?_eq_none_iff.mp ew
          | some w => obtain ⟨v, z1, z2⟩ := q4.get ew; exact ⟨v, z1, z2⟩
  | _ => cases h
end
end RB
namespace RB
open PySem PySem.Spec PyProof.Rows L2
end RB
namespace RB
open PySem PySem.Spec PyProof.Rows L2
abbrev SuTS := Addr → Value → Option Addr → TS
def Ends.gone (D : Ends) (i : Nat) : Ends := { nx := fun τ G => D.nx (τ.set i none) G, rt := D.rt, bk := fun τ G => D.bk (τ.set i none) G, ct := fun τ G => D.ct (τ.set i none) G }
def wHs (K : PySem.W.Frag) (i : Nat) (Wo : WX) (D : Ends) : List (Value × SuTS) → WX
  | [] => Wo
  | (c, ts) :: r => fun cls d τ G => ∃ b, PySem.W.exmOne K cls c = some b ∧ (b = true → ∀ a, G a = none → ts a cls d (Ends.gone D i) (τ.set i (some (.ref a))) G) ∧ (b = false → wHs K i Wo D r cls d τ G)
inductive HsOk (X : Cx) (n : Str) : List ExceptHandler → List (Value × SuTS) → Prop
  | nil : HsOk X n [] []
  | cons {x : Str} {c : Value} {ts : SuTS} {b0 : Stmt} {su : List Stmt} {p1 p2 : Pos} {hs : List ExceptHandler} {l : List (Value × SuTS)} (hc : Names X x c)
      (hsu : ∀ (a : Addr) (oe : Obj) (cls : Value) (d : Option Addr) (pn : List (Addr × Obj)), Zc cls d oe → (∃ vs, oe.data = .fields vs) → PSs (X.suite a ((a, oe) :: pn)) (b0 :: su) (ts a cls d)) (r : HsOk X n hs l) : HsOk X n (.ExceptHandler (some (.Name x p1)) (some n) (b0 :: su) p2 :: hs) ((c, ts) :: l)
section
variable {X : Cx} {n : Str} {i : Nat} {body : List Stmt} {h1 : ExceptHandler} {hs : List ExceptHandler} {l : List (Value × SuTS)} {pos : Pos} {tb : WX → TS} {Wo : WX}
theorem ps_tryN (est : X.stack = X.env :: X.outer) (efr : X.env.frame = some X.env.locals) (nd : X.N.Nodup) (ni : X.N[i]? = some n) (nl : X.env.kindOf n = some .local) (tk : Takes X Wo)
    (hb : ∀ (W : WX) (pn : List (Addr × Obj)) (xe : Value → Shared → Prop), Takes (X.tr pn xe) W → PassesOwn (model X.prog X.w) X.A X.env xe → PSs (X.tr pn xe) body (tb W))
    (hh : HsOk X n (h1 :: hs) l) : PS X (.Try body (h1 :: hs) [] [] pos) (fun D τ G => tb (wHs X.K i Wo D l) D τ G) := by
  refine ⟨fun pins s τ G D I h => ?_⟩
  have ok := I.ok
  have fro : X.A.frames = some (X.env :: X.outer) := by rw [ok.frames, est]
  have loc : Loc X.env.scope n := .inl nl
  refine wpAny_Try_except ?_
  refine wpAny_mono ((hb (wHs X.K i Wo D l) (X.pn ++ pins) (fun e z1 => wpAny (model X.prog X.w) X.A (noteFrame e X.env) (fun _ z2 => wpAny (model X.prog X.w) X.A (setFlight e none) (fun _ z3 =>
    wpAny (model X.prog X.w) X.A (handleBy e X.env (h1 :: hs)) (SP X pins D) X.xe z3) X.xe z2) X.xe z1) (fun u z xx => ?_) PassesOwn.looking).run [] s τ G D (I.toTry _) h) (fun f z hsp => ?_) (fun e z he => he)
  · obtain ⟨a, B, sI, pins', τ', G', cls, d, rfl, J', nb, up, sky, na, os, ag, w⟩ := xx
    have J : Inv X pins τ' G' sI := J'.ofTry ok
    have sk : Sky B (X.env :: X.outer) a (Zc cls d) X.env.locals z.heap := by rw [← est]; exact sky
    show wpAny (model X.prog X.w) X.A (noteFrame (.ref a) X.env) _ _ _
    refine Sky.land Zc.steady fro efr sk fun g3 f3 u3 => ?_
    have K3 : Inv X pins τ' G' { z with heap := g3 } := J.landed nb f3.1 (up.trans u3) os ag
    obtain ⟨o3, v3, e3, z3, d3⟩ := f3.there
    have nfr : a ∉ frs (X.env :: X.outer) := fun hm => by
      obtain ⟨_, o', e', hnf⟩ := f3.2.2.1.mem hm
      rw [e3] at e'; cases e'
      exact hnf _ d3
    have nL : a ≠ X.env.locals := fun q => nfr (List.mem_filterMap.mpr ⟨X.env, List.mem_cons_self, by rw [efr, q]⟩)
    have nF : a ∉ X.fs := fun hm => by
      obtain ⟨e, he, q⟩ := List.mem_filterMap.mp hm
      exact nfr (List.mem_filterMap.mpr ⟨e, List.mem_cons_of_mem _ he, q⟩)
    have T3 := K3.suite e3 d3 na nL nF
    have go : ∀ {hs' : List ExceptHandler} {l' : List (Value × SuTS)}, HsOk X n hs' l' → wHs X.K i Wo D l' cls d τ' G' → wpAny (model X.prog X.w) X.A (handleBy (.ref a) X.env hs') (SP X pins D) X.xe { z with heap := g3 } := by
      intro hs' l' hk
      induction hk with
      | nil =>
        intro w
        refine wpAny_handleBy_nil ?_
        obtain ⟨_, _, _, oe, vs, T, oT, ts', he, _, hd, q1, _⟩ := id f3
        unfold PySem.passOn
        refine wpAny_bind (wpAny_field he hd q1 ?_)
        rw [if_neg (by simp : ¬ ((Value.ref T == Value.none) = true))]
        have fin : wpAny (model X.prog X.w) X.A (setFlight (.ref a) X.env.frame) (fun _ z4 => wpAny (model X.prog X.w) X.A (throw (.ref a) : Sem Flow) (SP X pins D) X.xe z4) X.xe { z with heap := g3 } := by
          rw [efr]
          refine HandSPX.setFlight_upZ f3 fun g4 hh4 u4 => wpAny_throw (tk _ _ ?_)
          exact ⟨a, B, sI, pins, τ', G', cls, d, rfl, J, nb, (up.trans u3).trans u4, .inr (.inr (by rw [est]; exact hh4)), na, os, ag, w⟩
        first | exact wpAny_bind (wpAny_pure (wpAny_bind fin)) | exact wpAny_bind fin
      | @cons x c ts b0 su p1 p2 hs2 l2 hc hsu r ih =>
        intro ⟨b, hb1, yes, no⟩
        refine wpAny_handleBy_cons (codeAny_handlers_test ?_) (by intro q; cases q)
        have LT : PySem.W.Looks (model X.prog X.w) g3 (typeOf (.ref a)) cls := fun A Q E s k q => wpAny_typeOf_ref (k _ _ e3) (by rw [z3.1]; exact q)
        have LM := PySem.W.exm_one (M := model X.prog X.w) (K3.kIn) LT hb1
        have test : ∀ {Q : Value → Shared → Prop} {E : Value → Shared → Prop}, Q c { z with heap := g3 } → wpAny (model X.prog X.w) (X.A.mark (some (.ref a))) (eval (.Name x p1) X.env) Q E { z with heap := g3 } := fun {Q E} q => by
          obtain ⟨hg, hdbg, hm | ⟨hm, hv, hnn⟩⟩ := hc
          · exact ld_glob (X := X.suite a ((a, o3) :: (X.pn ++ pins))) T3 hg hm q hdbg
          · exact ld_blt (X := X.suite a ((a, o3) :: (X.pn ++ pins))) T3 hg hm hv q hnn hdbg
        refine test (LM.here ?_)
        cases b with
        | true =>
          refine codeAny_handlers_suite_as ?_
          refine HandSPX.lands_againZ f3 fun g4 f4 u4 => ?_
          have K4 : Inv X pins τ' G' { z with heap := g4 } := J.landed nb f4.1 ((up.trans u3).trans u4) os ag
          obtain ⟨o4, v4, e4, z4, d4⟩ := f4.there
          have T4 := K4.suite e4 d4 na nL nF
          refine store_ok (X := X.suite a ((a, o4) :: (X.pn ++ pins))) (v := .ref a) T4 nd ni loc rfl (fun s5 T5 => ?_) (.inr nl)
          refine wpAny_mono ((hsu a o4 cls d (X.pn ++ pins) z4 ⟨_, d4⟩).run [] s5 _ G' _ T5 (yes rfl a na)) (fun f s6 hsp => ?_) (fun _ _ q => False.elim q)
          have close : ∀ {τ6 : L2.St} {G6 : Hp} {Q : Shared → Prop}, Inv (X.suite a ((a, o4) :: (X.pn ++ pins))) [] τ6 G6 s6 → (∀ s7, Inv X pins (τ6.set i none) G6 s7 → Q s7) →
              wpAny (model X.prog X.w) X.A (do bindName X.env n .none; unbindBehindTheSuite X.env n p2) (fun _ s7 => Q s7) X.xe s6 := fun {τ6 G6 Q} T6 hq => gone_ok (T6.unsuite ok) nd ni nl hq
          cases f with
          | ret u => obtain ⟨v6, τ6, G6, T6, r6, q6⟩ := hsp; exact close T6 fun s7 J7 => ⟨_, _, _, J7, r6, q6⟩
          | next => obtain ⟨τ6, G6, T6, q6⟩ := hsp; exact close T6 fun s7 J7 => ⟨_, _, J7, q6⟩
          | brk => obtain ⟨τ6, G6, T6, q6⟩ := hsp; exact close T6 fun s7 J7 => ⟨_, _, J7, q6⟩
          | cont => obtain ⟨τ6, G6, T6, q6⟩ := hsp; exact close T6 fun s7 J7 => ⟨_, _, J7, q6⟩
        | false =>
          show wpAny _ X.A (handleBy (.ref a) X.env hs2) _ _ _
          exact ih (no rfl)
    exact go hh w
  · cases f with
    | ret u => obtain ⟨v, τ', G', J', r, q⟩ := hsp; exact ⟨v, τ', G', J'.ofTry ok, r, q⟩
    | next => obtain ⟨τ', G', J', q⟩ := hsp; exact wpAny_execs_nil ⟨τ', G', J'.ofTry ok, q⟩
    | brk => obtain ⟨τ', G', J', q⟩ := hsp; exact ⟨τ', G', J'.ofTry ok, q⟩
    | cont => obtain ⟨τ', G', J', q⟩ := hsp; exact ⟨τ', G', J'.ofTry ok, q⟩
end
end RB
namespace RB
open PySem PySem.Spec PyProof.Rows L2
section
variable {α β : Type}
abbrev XP := Nat → W → Sto → Prop
def Ok (r : Res α) (X : XP) (P : α → Sto → Prop) : Prop := match r with | .ok a st => P a st | .exc c p st => X c p st | .err => False
structure Po4 where
  nx : Lo → Sto → Prop
  rt : W → Sto → Prop
  bk : Lo → Sto → Prop
  ct : Lo → Sto → Prop
  ex : Nat → W → Lo → Sto → Prop
def OkS (r : RS) (D : Po4) : Prop := match r with | .nx l st => D.nx l st | .rt w st => D.rt w st | .bk l st => D.bk l st | .ct l st => D.ct l st | .exc c p l st => D.ex c p l st | .err => False
variable {X : XP} {P : W → Sto → Prop} {PB : Bool → Sto → Prop} {PL : List W → Sto → Prop} {D : Po4} {l : Lo} {st : Sto} {a b c : Ev} {ba bb : Bv} {as : Evs} {sa sb : Sx}
theorem k_ok {a : α} {P : α → Sto → Prop} : Ok (.ok a st) X P = P a st := rfl
theorem k_exc {n : Nat} {p : W} {P : α → Sto → Prop} : Ok (.exc n p st) X P = X n p st := rfl
theorem k_err {P : α → Sto → Prop} : Ok .err X P = False := rfl
theorem k_bind {r : Res α} {k : α → Sto → Res β} {P : β → Sto → Prop} : Ok (r.bind k) X P = Ok r X fun a st => Ok (k a st) X P := by cases r <;> rfl
theorem k_ite {q : Prop} [Decidable q] {r s : Res α} {P : α → Sto → Prop} : Ok (if q then r else s) X P = if q then Ok r X P else Ok s X P := by split <;> rfl
theorem k_iteS {q : Prop} [Decidable q] {r s : RS} : OkS (if q then r else s) D = if q then OkS r D else OkS s D := by split <;> rfl
theorem k_nx : OkS (.nx l st) D = D.nx l st := rfl
theorem k_rt {w : W} : OkS (.rt w st) D = D.rt w st := rfl
theorem k_xs {r : Res α} {k : α → Sto → RS} : OkS (xs r l k) D = Ok r (fun c p st => D.ex c p l st) fun a st => OkS (k a st) D := by cases r <;> rfl
theorem k_loc {i : Nat} : Ok (eLoc i l st) X P = match l[i]? with | some (some w) => P w st | _ => False := by unfold eLoc; rcases l[i]? with _ | (_ | _) <;> rfl
theorem k_lit {w : W} : Ok (eLit w l st) X P = P w st := rfl
theorem k_nil : Ok (evNil l st) X PL = PL [] st := rfl
theorem k_cons : Ok (evCons a as l st) X PL = Ok (a l st) X fun x st1 => Ok (as l st1) X fun xs st2 => PL (x :: xs) st2 := by unfold evCons; simp only [k_bind, k_ok]
theorem k_tup : Ok (eTup as l st) X P = Ok (as l st) X fun ws st1 => if ws.length ≤ 1000 then P (.tup ws) st1 else False := by unfold eTup; simp only [k_bind, k_ite, k_ok, k_err]
theorem k_lst : Ok (eLst as l st) X P = Ok (as l st) X fun ws st1 => if ws.length ≤ 1000 then P (.ref st1.c.length) (st1.push (.lst ws)) else False := by unfold eLst; simp only [k_bind, k_ite, k_ok, k_err]
theorem k_bin {op : W → W → Sto → Res W} : Ok (eBin op a b l st) X P = Ok (a l st) X fun x st1 => Ok (b l st1) X fun y st2 => Ok (op x y st2) X P := by unfold eBin; simp only [k_bind]
theorem k_eB {F : List W → Sto → Res W} : Ok (eB F as l st) X P = Ok (as l st) X fun ws st1 => Ok (F ws st1) X P := by unfold eB; simp only [k_bind]
theorem k_eU {F : W → Sto → Res W} : Ok (eU F a l st) X P = Ok (a l st) X fun ws st1 => Ok (F ws st1) X P := by unfold eU; simp only [k_bind]
theorem k_call {F : List W → Sto → Res W} {dws : List W} : Ok (eCall F dws as l st) X P = Ok (as l st) X fun ws st1 => Ok (F (ws ++ dws) st1) X P := by unfold eCall; simp only [k_bind]
theorem k_tru : Ok (bTru a l st) X PB = Ok (a l st) X fun w st1 => match truth st1 w with | some b => PB b st1 | none => False := by
  unfold bTru; simp only [k_bind]; congr 1; funext w st1; cases truth st1 w <;> rfl
theorem k_not : Ok (bNot ba l st) X PB = Ok (ba l st) X fun b st1 => PB (!b) st1 := by unfold bNot; simp only [k_bind, k_ok]
theorem k_and : Ok (bAnd ba bb l st) X PB = Ok (ba l st) X fun c st1 => if c = true then Ok (bb l st1) X PB else PB false st1 := by unfold bAnd; simp only [k_bind, k_ite, k_ok]
theorem k_or : Ok (bOr ba bb l st) X PB = Ok (ba l st) X fun c st1 => if c = true then PB true st1 else Ok (bb l st1) X PB := by unfold bOr; simp only [k_bind, k_ite, k_ok]
theorem k_if : Ok (eIf ba a b l st) X P = Ok (ba l st) X fun k st1 => if k = true then Ok (a l st1) X P else Ok (b l st1) X P := by unfold eIf; simp only [k_bind, k_ite]
theorem k_eAnd : Ok (eAnd a b l st) X P = Ok (a l st) X fun x st1 => match x with | .bl c => if c = true then Ok (b l st1) X P else P (.bl false) st1 | _ => False := by
  unfold eAnd; simp only [k_bind]; congr 1; funext w st1; cases w <;> simp only [k_ite, k_ok, k_err]
theorem k_eOr : Ok (eOr a b l st) X P = Ok (a l st) X fun x st1 => match x with | .bl c => if c = true then P (.bl true) st1 else Ok (b l st1) X P | _ => False := by
  unfold eOr; simp only [k_bind]; congr 1; funext w st1; cases w <;> simp only [k_ite, k_ok, k_err]
theorem k_eNot : Ok (eNot a l st) X P = Ok (a l st) X fun x st1 => match x with | .bl c => P (.bl (!c)) st1 | _ => False := by
  unfold eNot; simp only [k_bind]; congr 1; funext w st1; cases w <;> simp only [k_ok, k_err]
theorem k_val : Ok (bVal a l st) X PB = Ok (a l st) X fun x st1 => match x with | .bl c => PB c st1 | _ => False := by
  unfold bVal; simp only [k_bind]; congr 1; funext w st1; cases w <;> simp only [k_ok, k_err]
theorem k_chain {op op' : W → W → Sto → Res W} : Ok (eChain op op' a b c l st) X P = Ok (a l st) X fun x st1 => Ok (b l st1) X fun y st2 => Ok (op x y st2) X fun z st3 => match z with | .bl k => if k = true then Ok (c l st3) X fun w st4 => Ok (op' y w st4) X P else P (.bl false) st3 | _ => False := by
  unfold eChain; simp only [k_bind]; congr 1; funext w st1; congr 1; funext y st2; congr 1; funext z st3; cases z <;> simp only [k_ite, k_bind, k_ok, k_err]
theorem k_sNil : OkS (sNil l st) D = D.nx l st := rfl
theorem k_sSeq : OkS (sSeq sa sb l st) D = OkS (sa l st) { D with nx := fun l1 st1 => OkS (sb l1 st1) D } := by unfold sSeq; cases sa l st <;> rfl
theorem k_sSet {tg : Tg} : OkS (sSet tg a l st) D = Ok (a l st) (fun c p st => D.ex c p l st) fun w st1 => match tg w l st1 with | some l1 => D.nx l1 st1 | none => False := by
  unfold sSet; rw [k_xs]; congr 1; funext w st1; cases tg w l st1 <;> rfl
theorem k_sSetN {i : Nat} : OkS (sSet (tgName i) a l st) D = Ok (a l st) (fun c p st => D.ex c p l st) fun w st1 => D.nx (l.set i (some w)) st1 := by rw [k_sSet]; rfl
theorem k_sDrop : OkS (sDrop a l st) D = Ok (a l st) (fun c p st => D.ex c p l st) fun w st1 => D.nx l st1 := by unfold sDrop; rw [k_xs]; rfl
theorem k_sRet : OkS (sRet a l st) D = Ok (a l st) (fun c p st => D.ex c p l st) fun w st1 => D.rt w st1 := by unfold sRet; rw [k_xs]; rfl
theorem k_sRetN : OkS (sRetN l st) D = D.rt .non st := rfl
theorem k_sIf : OkS (sIf ba sa sb l st) D = Ok (ba l st) (fun c p st => D.ex c p l st) fun k st1 => if k = true then OkS (sa l st1) D else OkS (sb l st1) D := by unfold sIf; rw [k_xs]; congr 1; funext k st1; rw [k_iteS]
theorem k_sBreak : OkS (sBreak l st) D = D.bk l st := rfl
theorem k_sCont : OkS (sCont l st) D = D.ct l st := rfl
theorem k_sFor {n : Nat} {src : Lo → Sto → Res Src} {tg : Tg} : OkS (sFor n src tg sa l st) D = Ok (src l st) (fun c p st => D.ex c p l st) fun s st1 => OkS (loopF s tg sa n 0 l st1) D := by unfold sFor; rw [k_xs]
theorem k_sRaise {n : Nat} : OkS (sRaise n as l st) D = Ok (as l st) (fun c p st => D.ex c p l st) fun ws st1 => match ws with | [w] => D.ex n w l st1 | _ => False := by
  unfold sRaise; rw [k_xs]; congr 1; funext ws st1; rcases ws with _ | ⟨w, _ | ⟨_, _⟩⟩ <;> rfl
theorem k_sTry {is : Nat → Option Bool} {g : W → W} : OkS (sTry is g sa l st) D = OkS (sa l st) { D with ex := fun c p l1 st1 => match is c with | some true => D.rt (g p) st1 | some false => D.ex c p l1 st1 | none => False } := by
  unfold sTry; cases sa l st <;> try rfl
  rename_i c p l1 st1
  show OkS (match is c with | some true => .rt (g p) st1 | some false => .exc c p l1 st1 | none => .err) D = (match is c with | some true => D.rt (g p) st1 | some false => D.ex c p l1 st1 | none => False)
  rcases is c with _ | (_ | _) <;> rfl
theorem k_defn {n : Nat} {body : Sx} {ws : List W} {c0 : List Cell} : Ok (defn n body ws ⟨c0, none⟩) X P = OkS (body (ws.map some ++ List.replicate (n - ws.length) none) ⟨c0, none⟩)
    { nx := fun _ st' => Ok (trim c0.length .non st') X P, rt := fun w st' => Ok (trim c0.length w st') X P, bk := fun _ _ => False, ct := fun _ _ => False, ex := fun c p _ st' => if (st'.may c0.length && W.pure p) = true then X c p (st'.cut c0.length) else X c p st' } := by
  unfold defn
  dsimp only
  cases body (ws.map some ++ List.replicate (n - ws.length) none) ⟨c0, none⟩ <;> try rfl
  · simp only [OkS, reM_none]
  · simp only [OkS, reM_none]
  · simp only [OkS, reM_none]
    split <;> rfl
theorem lift_ok {F : List W → Sto → Res W} (hF : Mark F) {ws : List W} {v : W} {c0 c1 : List Cell} (h : F ws ⟨c0, none⟩ = .ok v ⟨c1, none⟩) (d : Option Nat) : F ws ⟨c0, d⟩ = .ok v ⟨c1, d⟩ := by
  rw [hF ws ⟨c0, d⟩]
  dsimp only
  rw [h]
  cases d <;> rfl
theorem k_trim {n : Nat} {w : W} {c : List Cell} (h : W.pure w = true) : Ok (trim n w ⟨c, none⟩) X P = P w ⟨c.take n, none⟩ := by
  unfold trim Sto.may Sto.cut
  simp [h, k_ok]
theorem k_vSeq {P : Src → Sto → Prop} : Ok (vSeq a l st) X P = Ok (a l st) X fun w st1 => match w with | .tup ws => P (.fix ws) st1 | .ref n => (match getL st1 n with | some _ => P (.live n) st1 | none => False) | _ => False := by
  unfold vSeq; rw [k_bind]; congr 1; funext w st1; cases w <;> try rfl
  rename_i n
  show Ok (match getL st1 n with | some _ => Res.ok (Src.live n) st1 | none => .err) X P = (match getL st1 n with | some _ => P (.live n) st1 | none => False)
  cases getL st1 n <;> rfl
theorem k_rng1 {P : Src → Sto → Prop} : Ok (vRng1 as l st) X P = Ok (as l st) X fun ws st1 => match ws with | [.int j] => if -1000000 ≤ j ∧ j ≤ 1000000 then P (.fix (upFrom 0 j.toNat)) st1 else False | _ => False := by
  unfold vRng1; rw [k_bind]; congr 1; funext w st1
  rcases w with _ | ⟨w, _ | ⟨_, _⟩⟩
  · rfl
  · cases w <;> first | rfl | exact k_ite.trans rfl
  · cases w <;> rfl
end
section
variable {D : Po4}
theorem loop_fix {tg : Tg} {body : Sx} {s : Src} (ws : List W) (Inv : Nat → Lo → Sto → Prop) (hat : ∀ i l st, Inv i l st → s.at st i = some ws[i]?)
    (step : ∀ i w l st, ws[i]? = some w → Inv i l st → ∃ l1, tg w l st = some l1 ∧ OkS (body l1 st) { D with nx := Inv (i + 1), ct := Inv (i + 1), bk := D.nx })
    (done : ∀ l st, Inv ws.length l st → D.nx l st) : ∀ (f i : Nat) (l : Lo) (st : Sto), ws.length < f + i → i ≤ ws.length → Inv i l st → OkS (loopF s tg body f i l st) D
  | 0, i, l, st, h, h2, _ => by omega
  | f + 1, i, l, st, h, h2, inv => by
    unfold loopF
    rw [hat i l st inv]
    cases e : ws[i]? with
    | none =>
      have : i = ws.length := by
        have := List.getElem?_eq_none_iff.mp e
        omega
      subst this
      exact done l st inv
    | some w =>
      obtain ⟨l1, h3, h4⟩ := step i w l st e inv
      have hi : i < ws.length := (List.getElem?_eq_some_iff.mp e).1
      simp only [h3]
      generalize body l1 st = r at h4 ⊢
      cases r with
      | nx l2 st2 => exact loop_fix ws Inv hat step done f (i + 1) l2 st2 (by omega) (by omega) h4
      | ct l2 st2 => exact loop_fix ws Inv hat step done f (i + 1) l2 st2 (by omega) (by omega) h4
      | bk l2 st2 => exact h4
      | rt w2 st2 => exact h4
      | exc c p l2 st2 => exact h4
      | err => exact h4
theorem cloop_fix {tg : Tg} {own : List Nat} {cond : Bv} {elt : Ev} {D0 : Nat} {s : Src} {l : Lo} {X : XP} {P : Unit → Sto → Prop} (ws : List W) (Inv : Nat → List W → Sto → Prop) (hat : ∀ i acc st, Inv i acc st → s.at st i = some ws[i]?)
    (step : ∀ i w acc st, ws[i]? = some w → Inv i acc st → ∃ l1, tg w (wipeL l own) st = some l1 ∧ Ok (cond l1 st) (fun _ _ _ => False) fun b st1 => if b = true then Ok (elt l1 st1) (fun _ _ _ => False) fun y st2 => ∃ us, st2.c[D0]? = some (.lst us) ∧ us.length < 1000000 ∧ Inv (i + 1) (acc ++ [y]) (st2.put D0 (.lst (us ++ [y])) (W.low D0 y)) else Inv (i + 1) acc st1)
    (done : ∀ acc st, Inv ws.length acc st → P () st) : ∀ (f i : Nat) (acc : List W) (st : Sto), ws.length < f + i → i ≤ ws.length → Inv i acc st → Ok (cLoop s tg own cond (cApp elt D0) l f i st) X P
  | 0, i, acc, st, h, h2, _ => by omega
  | f + 1, i, acc, st, h, h2, inv => by
    unfold cLoop
    rw [hat i acc st inv]
    cases e : ws[i]? with
    | none =>
      have : i = ws.length := by
        have := List.getElem?_eq_none_iff.mp e
        omega
      subst this
      exact done acc st inv
    | some w =>
      obtain ⟨l1, h3, h4⟩ := step i w acc st e inv
      have hi : i < ws.length := (List.getElem?_eq_some_iff.mp e).1
      simp only [h3]
      generalize cond l1 st = r at h4 ⊢
      cases r with
      | exc c p st1 => exact h4.elim
      | err => exact h4.elim
      | ok b st1 =>
        cases b with
        | false => exact cloop_fix ws Inv hat step done f (i + 1) acc st1 (by omega) (by omega) h4
        | true =>
          have h4 : Ok (elt l1 st1) (fun _ _ _ => False) fun y st2 => ∃ us, st2.c[D0]? = some (.lst us) ∧ us.length < 1000000 ∧ Inv (i + 1) (acc ++ [y]) (st2.put D0 (.lst (us ++ [y])) (W.low D0 y)) := h4
          simp only [if_true, cApp]
          generalize elt l1 st1 = r at h4 ⊢
          cases r with
          | exc c p st1 => exact h4.elim
          | err => exact h4.elim
          | ok y st2 =>
            obtain ⟨us, h5, h6, h7⟩ := h4
            simp only [h5, h6, if_true]
            exact cloop_fix ws Inv hat step done f (i + 1) (acc ++ [y]) _ (by omega) (by omega) h7
theorem k_comp {n : Nat} {own : List Nat} {src : Sv} {tg : Tg} {cond : Bv} {elt : Ev} {l : Lo} {st : Sto} {X : XP} {P : W → Sto → Prop} : Ok (eComp n own src tg cond elt l st) X P = Ok (src l st) X fun s st1 => Ok (cLoop s tg own cond (cApp elt st1.c.length) l n 0 (st1.push (.lst []))) X fun _ st2 => P (.ref st1.c.length) st2 := by
  unfold eComp; simp only [k_bind, k_ok]
end
end RB
namespace RB
open PySem PySem.Spec PyProof.Rows L2
abbrev Clause := (Nat → Option Bool) × (W → W)
def tryGo : List Clause → Nat → W → Lo → Sto → RS
  | [], k, p, l, st => .exc k p l st
  | (is, g) :: r, k, p, l, st => match is k with | some true => .rt (g p) st | some false => tryGo r k p l st | none => .err
def sTryM (i : Nat) (cs : List Clause) (body : Sx) : Sx := fun l st => match body l st with
  | .exc k p l1 st1 => if i < l1.length then tryGo cs k p l1 st1 else .err
  | r => r
section
variable {X : Cx} {Γ : Gf} {Wx : WX}
def tsOf (Γ : Gf) (i : Nat) (f : Str) (g : W → W) : SuTS := fun a cls d D σ H => ∃ k, Γ.fld k = f ∧ PySem.ErrX.ErrC Γ.K (Γ.ec k) f ∧ σ[i]? = some (some (.ref a)) ∧ cls = .ref (Γ.ec k) ∧ ∃ dd v μ st p, d = some dd ∧ H dd = some (.xd [(f, v)]) ∧ Sim Γ μ st H ∧ Rep Γ.K μ H p v ∧ ∀ μ' H' u, Ext Γ.K μ μ' H H' → Sim Γ μ' st H' → Rep Γ.K μ' H' (g p) u → D.rt u H'
inductive TryCl (Γ : Gf) (X : Cx) (i : Nat) (n : Str) : List ExceptHandler → List Clause → List (Value × SuTS) → Prop
  | nil : TryCl Γ X i n [] [] []
  | cons {x f : Str} {c : Value} {b0 : Stmt} {su : List Stmt} {p1 p2 : Pos} {is : Nat → Option Bool} {g : W → W} {hs : List ExceptHandler} {cs : List Clause} {l : List (Value × SuTS)} (hc : Names X x c)
      (his : ∀ k b, is k = some b → PySem.W.exmOne Γ.K (.ref (Γ.ec k)) c = some b) (hT : ∀ k, is k = some true → Γ.fld k = f ∧ PySem.ErrX.ErrC Γ.K (Γ.ec k) f) (hsu : SuiteG Γ X i f g (b0 :: su)) (r : TryCl Γ X i n hs cs l) :
      TryCl Γ X i n (.ExceptHandler (some (.Name x p1)) (some n) (b0 :: su) p2 :: hs) ((is, g) :: cs) ((c, tsOf Γ i f g) :: l)
theorem TryCl.ok {i : Nat} {n : Str} {hs : List ExceptHandler} {cs : List Clause} {l : List (Value × SuTS)} (h : TryCl Γ X i n hs cs l) : HsOk X n hs l := by
  induction h with
  | nil => exact .nil
  | cons hc his hT hsu r ih => exact .cons hc (fun a oe cls d pn hz hf => ⟨fun pins s σ H D I ⟨k, h1, h2, h3⟩ => (hsu k h1 h2 a oe cls d pn hz hf).run pins s σ H D I h3⟩) ih
theorem TryCl.wish {i : Nat} {n : Str} {hs : List ExceptHandler} {cs : List Clause} {l : List (Value × SuTS)} (h : TryCl Γ X i n hs cs l) (hK : X.K = Γ.K) {D : Ends} {k : Nat} {p : W} {l1 : Lo} {st1 : Sto} {μ μ1 : List Addr} {H H1 : Hp} {σ1 : L2.St} {d : Addr} {v : V}
    (hP : PostS Γ Wx μ H D (tryGo cs k p l1 st1)) (hi : i < l1.length) (e1 : Ext Γ.K μ μ1 H H1) (s1 : Sim Γ μ1 st1 H1) (lr1 : LRep Γ.K μ1 H1 l1 σ1) (r1 : Rep Γ.K μ1 H1 p v) (q1 : H1 d = some (.xd [(Γ.fld k, v)])) : wHs X.K i Wx D l (.ref (Γ.ec k)) (some d) σ1 H1 := by
  induction h with
  | nil => exact hP μ1 H1 σ1 d v e1 s1 lr1 r1 q1
  | @cons x f c b0 su p1 p2 is g hs cs l hc his hT hsu r ih =>
    have hP : PostS Γ Wx μ H D (match is k with | some true => .rt (g p) st1 | some false => tryGo cs k p l1 st1 | none => .err) := hP
    cases ek : is k with
    | none => rw [ek] at hP; exact hP.elim
    | some b =>
      rw [ek] at hP
      refine ⟨b, by rw [hK]; exact his k b ek, fun hb a ha => ?_, fun hb => ?_⟩
      · subst hb
        obtain ⟨t1, t2⟩ := hT k ek
        have hlt : i < σ1.length := by rw [← lr1.1]; exact hi
        exact ⟨k, t1, t2, by rw [List.getElem?_set_self hlt], rfl, d, v, μ1, st1, p, rfl, by rw [← t1]; exact q1, s1, r1, fun μ2 H2 u e2 s2 r2 => hP μ2 H2 u (e1.trans e2) s2 r2⟩
      · subst hb
        exact ih hP
theorem qs_tryM {n : Str} {i : Nat} {body : List Stmt} {h1 : ExceptHandler} {hs : List ExceptHandler} {cs : List Clause} {lc : List (Value × SuTS)} {pos : Pos} {sx : Sx} (hK : X.K = Γ.K) (est : X.stack = X.env :: X.outer) (efr : X.env.frame = some X.env.locals) (hN : X.N.Nodup) (hi : X.N[i]? = some n) (hln : X.env.kindOf n = some .local) (tk : Takes X Wx)
    (hcl : TryCl Γ X i n (h1 :: hs) cs lc)
    (hb : ∀ (W : WX) (pn : List (Addr × Obj)) (xe : Value → Shared → Prop), Takes (X.tr pn xe) W → PassesOwn (model X.prog X.w) X.A X.env xe → PSs (X.tr pn xe) body (tS Γ W sx)) :
    PS X (.Try body (h1 :: hs) [] [] pos) (tS Γ Wx (sTryM i cs sx)) := by
  refine PS_imp (ps_tryN (Wo := Wx) est efr hN hi hln tk hb hcl.ok) fun D σ H ⟨μ, l, st, hs, hl, h⟩ => ?_
  refine ⟨μ, l, st, hs, hl, ?_⟩
  unfold sTryM at h
  cases e : sx l st with
  | nx l1 st1 => rw [e] at h; exact h
  | rt w st1 => rw [e] at h; exact h
  | bk l1 st1 => rw [e] at h; exact h
  | ct l1 st1 => rw [e] at h; exact h
  | err => rw [e] at h; exact h
  | exc k p l1 st1 =>
    rw [e] at h
    intro μ1 H1 σ1 d v e1 s1 lr1 r1 q1
    dsimp only at h
    by_cases hi : i < l1.length
    · rw [if_pos hi] at h
      exact hcl.wish hK h hi e1 s1 lr1 r1 q1
    · rw [if_neg hi] at h
      exact h.elim
theorem k_tryM {i : Nat} {cs : List Clause} {b : Sx} {l : Lo} {st : Sto} {D : Po4} : OkS (sTryM i cs b l st) D = OkS (b l st) { D with ex := fun c p l1 st1 => if i < l1.length then OkS (tryGo cs c p l1 st1) D else False } := by
  unfold sTryM; cases b l st <;> try rfl
  rename_i c p l1 st1
  show OkS (if i < l1.length then _ else _) D = if i < l1.length then _ else _
  split <;> rfl
theorem exm_own {K : PySem.W.Frag} {C E : Addr} {b : Bool} (ic : PySem.W.isClsIn K C = true) (ty : PySem.W.typeIn K (.ref C) = some (.type "type")) (ex : PySem.W.subIn K (.ref C) (.type "BaseException") = some true) (h : PySem.W.subIn K (.ref E) (.ref C) = some b) : PySem.W.exmOne K (.ref E) (.ref C) = some b := by
  unfold PySem.W.exmOne
  rw [if_pos (by rw [ex]; rfl)]
  have ic' : (PySem.W.clsIn K C).isSome = true := ic
  unfold PySem.W.kitCls
  simp only [ic', ty, h]
  rfl
theorem mk_err_word {K : PySem.W.Frag} {C fI : Addr} {qual : Str} {oc doc pm cdv ct : Value} {od an : Option Addr} {osl : Array (Option Value)} {p1 p2 q1 q2 q3 q4 : Pos} {nm q : Str} {N : Addr} {bs bm : List Value} {sn : List Str} {sub : List Value} {ab : Bool} {col : Option Bool} {dd : Option Addr} {k0 k1 k2 k3 k5 : Option Value}
    (cls : K.lookup C = some (excClassObj nm q C N bs bm true sn sub ab col dd k0 k1 k2 k3 k5 "Exception.__new__")) (hbm : PySem.ErrX.refsEx bm = true)
    (sa : PySem.W.findIn K (.ref C) "__setattr__" = some (some (.builtin "object.__setattr__"))) (ga : PySem.W.findIn K (.ref C) "__getattribute__" = some (some (.builtin "BaseException.__getattribute__"))) (gg : PySem.W.findIn K (.ref C) "__getattr__" = some none)
    (noN : PySem.W.findIn K (.ref C) "word" = some none) (kC : PySem.W.keepIn K (.ref C) = true) (exC : PySem.W.subIn K (.ref C) (.type "BaseException") = some true) (tyC : PySem.W.typeIn K (.ref C) = some (.type "type")) (hdC : PySem.W.hasDictIn K C = true)
    (iI : PySem.W.findIn K (.ref C) "__init__" = some (some (.ref fI))) (tI : PySem.W.typeIn K (.ref fI) = some (.type "function"))
    (fn : K.lookup fI = some ⟨oc, od, .func (PySem.W.fnOf "__init__" qual (PySem.ErrX.iA_word p1 p2) (PySem.ErrX.iB_word q1 q2 q3 q4) PySem.ErrX.iS_word .none .none doc pm an cdv ct), osl⟩) (hcd : PySem.W.codeIn K cdv qual = true) : PySem.ErrX.ErrC K C "word" :=
  { cls := ⟨_, _, _, _, _, _, _, _, _, _, _, _, _, _, _, cls, hbm⟩, sa := sa, ga := ga, gg := gg, noN := noN, kC := kC, exC := exC, tyC := tyC, hdC := hdC,
    ini := ⟨fI, iI, tI, fun prog w A R s x t0 v X hlim hx hnx room want => PySem.ErrX.ini_word fn hcd ⟨_, _, _, _, _, _, _, _, _, _, _, _, _, _, _, cls, hbm⟩ sa noN X hlim hx hnx room want⟩ }
end
end RB
namespace RB
open PySem PySem.Spec PyProof.Rows L2
section
variable {prog : Program} {w : World} {A : Around} {E : Value → Shared → Prop} {s : Shared} {t u : Bool} {l : Addr} {xs : Array Value}
theorem drawsOn {prog : Program} {w : World} {A : Around} (t : Bool) (hh : A.handled = none) (it l : Addr) (hne : l ≠ it) (xs : Array Value) :
    Draws prog w A it [it, l] xs.size (fun i v => xs[i]? = some v) (fun i h => ItOn t h it l i ∧ SqOn t h l xs) := by
  cases t
  · exact Draws.list hh it l hne xs
  · exact Draws.tuple hh it l hne xs
theorem meets_enumOn (t : Bool) (l : Addr) (xs : Array Value) :
    Meets (Builtin.«enumerate.__new__» ⟨[.type "enumerate", .ref l], []⟩) (fun _ R s => SqOn t s.heap l xs ∧
      R (.ok (.ret (.ref (s.heap.push (itObj t l)).objs.size)))
        { s with heap := (s.heap.push (itObj t l)).push { cls := .type "enumerate", data := .fields #[.none, .bool false, .ref s.heap.objs.size, rawInt 0, .none, .none] } }) :=
  .of_wp fun prog w A R s h => by
    obtain ⟨hp, g, d, tk, os⟩ := s; obtain ⟨hl, h⟩ := h
    have hsub := sub_enumerate
    have hL : SqOn t (Shared.heap ⟨hp, g, d, tk, os⟩) l xs := hl
    wp_walk using iterOn hL
    refine wpAny_stack_any fun st => wpAny_pure ?_
    split
    · rename_i c _ _ _ _ _
      cases (c == Value.type "enumerate")
      · wp_walk using iterOn hL
        exact ⟨_, rfl, h⟩
      · wp_walk using iterOn hL
        exact ⟨_, rfl, h⟩
    · wp_walk using iterOn hL
      exact ⟨_, rfl, h⟩
theorem call_enumOn {Q : Value → Shared → Prop} (hL : SqOn t s.heap l xs)
    (h : ∀ h', IsEnum h' (s.heap.objs.size + 1) s.heap.objs.size 0 .none → ItOn t h' s.heap.objs.size l 0 → h'.objs.size = s.heap.objs.size + 2 →
      (∀ b o, s.heap.get? b = some o → h'.get? b = some o) → Q (.ref (s.heap.objs.size + 1)) { s with heap := h' }) :
    wpAny (model prog w) A (call (.type "enumerate") [.ref l]) Q E s := by
  refine callType_new F.called_enumerate (by decide) (F.typeCall_enumerate_1 _) (F.newCall_enumerate_1 _) (fun obj => F.args_object_init_2 obj _) F.entry_enumerate_new (meets_enumOn t l xs) ⟨hL, ?_⟩
  have hz : (s.heap.push (itObj t l)).objs.size = s.heap.objs.size + 1 := Heap.size_push ..
  show _ ∧ _
  rw [hz]
  have he : IsEnum ((s.heap.push (itObj t l)).push { cls := .type "enumerate", data := .fields #[.none, .bool false, .ref s.heap.objs.size, rawInt 0, .none, .none] }) (s.heap.objs.size + 1) s.heap.objs.size 0 .none := by
    have := Heap.get?_push_size (s.heap.push (itObj t l)) (o := { cls := .type "enumerate", data := .fields #[.none, .bool false, .ref s.heap.objs.size, rawInt 0, .none, .none] }) rfl
    rw [hz] at this; exact this
  exact ⟨⟨_, he, rfl⟩, h _ he (itObj_at (Heap.get?_push_of_some _ (Heap.get?_push_size _ (by cases t <;> rfl)))) (by rw [Heap.size_push, hz]) fun b o x => Heap.get?_push_of_some _ (Heap.get?_push_of_some _ x)⟩
end
section
variable {X : Cx} {pins : List (Addr × Obj)} {σ : L2.St} {H : Hp} {s : Shared} {t u : Bool}
def IteM (t : Bool) (K : PySem.W.Frag) (a : Addr) : It :=
  ⟨fun i H => ∃ (xs : List V) (x : V), SqK t K H a xs ∧ xs[i]? = some x, fun i H v H' => ∃ T x, (v = .ref T ∧ H T = none ∧ H' = upd H T (.tup [.int (i : Nat), x])) ∧ ∀ xs, SqK t K H a xs → xs[i]? = some x, fun i H => ∃ xs : List V, SqK t K H a xs ∧ xs.length ≤ i⟩
theorem turn_enumM {P : Program} {w : World} {K : PySem.W.Frag} {elts : List Expr} {kk : Nat} {tpos : Pos} (a e it : Addr) :
    Turn P w K (.Tuple elts kk tpos) (IteM t K a) [e, it] e (fun i h => (∃ old, IsEnum h e it ((i : Nat) : Int) old) ∧ ItOn t h it a i ∧ e ≠ it ∧ a ≠ it ∧ a ≠ e) where
  mem := by simp
  obj := fun i h st b hb => by
    obtain ⟨⟨old, he⟩, hi, _⟩ := st
    have e' : b = e ∨ b = it := by simpa using hb
    rcases e' with z | z
    · rw [z]; exact ⟨_, he, fun v q => nomatch q⟩
    · rw [z]; exact hi.obj
  keep := fun i h h' st k => let ⟨⟨old, he⟩, hi, hne⟩ := st; ⟨⟨old, k e (by simp) _ he⟩, hi.at fun o q => k it (by simp) o q, hne⟩
  item := by
    intro X hP hw hK hc i pins s σ H E I hf st hg
    subst hP hw hK
    obtain ⟨⟨old, he⟩, hit, hne, hai, hae⟩ := st
    obtain ⟨xs, x, hq, hx⟩ := hg
    obtain ⟨its, rv, p, hz⟩ := hq.laid I
    obtain ⟨u, hu, ru⟩ := rv.get hx
    have hel : e < s.heap.objs.size := Heap.lt_size he
    have hil : it < s.heap.objs.size := hit.lt
    have hlt : i < its.toArray.size := by
      have := (List.getElem?_eq_some_iff.mp hu).1
      simpa using this
    refine wpAny_pyNext_enum_itemD (drawsOn t (show X.A.in1.handled = none from I.ok.hd hc) it a hai its.toArray) he ⟨hit, p⟩ hlt hne (by simp; exact ⟨hne, fun z => hae z.symm⟩) fun v h' tk hv ho hst hT hsz hk => ?_
    have hv : its.toArray[i]? = some v := hv
    have ev : v = u := by
      have : its.toArray[i]? = its[i]? := by simp
      rw [this, hu] at hv; cases hv; rfl
    subst ev
    refine ⟨_, rfl, wpAny_letOwnedTupleGo_enum (s := { s with heap := h', toks := tk + 1 }) ho fun h'' he' sb => ?_⟩
    have hT2 : h''.get? s.heap.objs.size = some { cls := .type "tuple", data := .seq #[.int i tk, v] } := (sb.2 _ (Nat.ne_of_gt hel)).trans hT
    have new : ObjOk X.prog X.w (upd H s.heap.objs.size (.tup [.int (i : Nat), x])) h'' s.heap.objs.size (.tup [.int (i : Nat), x]) :=
      ⟨by show 2 ≤ sizeLine; decide, [.int i tk, v], .cons ⟨_, rfl⟩ (.cons ru .nil), ⟨_, hT2, rfl, _, rfl⟩⟩
    have I1 : Inv X pins σ (upd H s.heap.objs.size (.tup [.int (i : Nat), x])) { s with heap := h'', toks := tk + 1 } :=
      I.turnedNew (ch := [e, it]) (fun b ob hb q => (sb.2 b (fun z => hb (by simp [z]))).trans (hk b ob (fun z => hb (by simp [z])) (fun z => hb (by simp [z])) q)) hf (Nat.le_refl _) new
    refine ⟨.ref s.heap.objs.size, _, I1, rfl, ⟨_, x, ⟨rfl, I.hok.fresh (Nat.le_refl _), rfl⟩, fun ys hy => by rw [hy.same I hq]; exact hx⟩, ⟨⟨v, ?_⟩, hst.1.at fun o q => (sb.2 it (Ne.symm hne)).trans q, hne, hai, hae⟩, fun b hb => ?_⟩
    · have e1 : ((i + 1 : Nat) : Int) = (i : Int) + 1 := by omega
      rw [e1]; exact he'
    · have hb' : b < s.heap.objs.size := by
        have e' : b = e ∨ b = it := by simpa using hb
        rcases e' with z | z
        · rw [z]; exact hel
        · rw [z]; exact hil
      rw [upd_ne (Nat.ne_of_lt hb')]
      exact (hf b hb).1
  done := by
    intro X hP hw hK hc i pins s σ H E I hf st hg
    subst hP hw hK
    obtain ⟨⟨old, he⟩, hit, hne, hai, hae⟩ := st
    obtain ⟨xs, hq, hx⟩ := hg
    obtain ⟨its, rv, p, hz⟩ := hq.laid I
    obtain ⟨f0, f1, f2, f3, f4, f5⟩ := hf it (by simp)
    have hl := rv.length
    have hT : s.TypeIs (.ref e) "enumerate" := ⟨_, he, rfl⟩
    unfold pyNext
    refine wpAny_bind (wpAny_attempt (wpAny_callSpecial?_slot (name := Str.ofString "__next__") hT F.slot_enumerate_next
      (wpAny_call_entry F.slot_enumerate_next hT F.entry_enumerate_next ?_ (F.args_enumerate_next_1 _))))
    show wpAny _ _ (field (.ref e) 2 >>= _) _ _ _
    refine wpAny_bind (wpAny_field he rfl (x := .ref it) rfl ?_)
    refine wpAny_bind (nextOn_end (by first | exact I.ok.hd hc | rfl) hit p (by simp; omega) fun h' x he' hx' => ?_)
    obtain ⟨o, ho, hc'⟩ := hx'
    refine wpAny_bind (wpAny_isInstance (T := "StopIteration") (b := true) ⟨o, ho, hc'⟩ isSubtype_stop ?_)
    exact wpAny_pure ⟨rfl, I.turned (t' := s.toks) (fun b o hb q => he' b o hb q) f0 f1 f3 f4 f5⟩
  self := fun A i s Q E st h => let ⟨⟨_, he⟩, _⟩ := st; wpAny_pyIter_enum he h
def iEnumM (K : PySem.W.Frag) (ta : TA) : TI := fun σ H R => ta σ H fun vs H1 => ∃ (t : Bool) (a : Addr) (xs : List V), vs = [.ref a] ∧ SqK t K H1 a xs ∧ R (IteM t K a) H1
theorem pi_enumM {e : Expr} {ta : TA} {p pos tpos : Pos} {elts : List Expr} {kk : Nat} (hg : Gl X "enumerate") (hm : X.mg "enumerate" = none) (ha : PA X [e] ta) (hs : starEach [e] X.env = [(false, eval e X.env)] := by rfl) :
    PI X (.Tuple elts kk tpos) (.Call (.Name "enumerate" p) [e] [] pos) (iEnumM X.K ta) := by
  refine ⟨fun pins s σ H R I h => ?_⟩
  refine Call_ (ld_blt I hg hm boot_enumerate (PyProof.Rows.callWith_type1 (thn (ha.run pos pins s σ H _ I h) fun us s1 ⟨vs, H1, I1, r1, q1⟩ => ?_) hs rfl))
  obtain ⟨t, a, xs, ex, hq, q⟩ := q1
  subst ex
  cases r1 with
  | cons r rr =>
    cases rr
    cases r
    obtain ⟨its, rv, p', hz⟩ := hq.laid I1
    refine call_enumOn p' fun h' he hit hsz hk => wpAny_pyIter_enum he ?_
    have I2 : Inv X pins σ H1 { s1 with heap := h' } := I1.kept (t' := s1.toks) hk
    have al := p'.lt
    refine ⟨s1.heap.objs.size + 1, [s1.heap.objs.size + 1, s1.heap.objs.size], _, _, H1, rfl, I2, turn_enumM a (s1.heap.objs.size + 1) s1.heap.objs.size, ⟨⟨.none, he⟩, hit, Nat.succ_ne_self _, Nat.ne_of_lt al, Nat.ne_of_lt (Nat.lt_succ_of_lt al)⟩, fun b hb => ?_, q⟩
    have e' : b = s1.heap.objs.size + 1 ∨ b = s1.heap.objs.size := by simpa using hb
    have hle : s1.heap.objs.size ≤ b := by
      rcases e' with z | z
      · rw [z]; exact Nat.le_add_right _ _
      · rw [z]; exact Nat.le_refl _
    exact I1.fpOk hle (I1.hok.fresh hle)
end
section
variable {X : Cx} {Γ : Gf} {Wx : WX} {a b : Expr} {eas : Evs}
def vEnumerate (as : Evs) : Sv := fun l st => (as l st).bind fun ws st1 => match ws with
  | [x] => match srcOf st1 x with | some s => .ok (.enum s) st1 | none => .err
  | _ => .err
theorem itok_enum {t : Bool} {a : Addr} {s : Src} {μ : List Addr} {H : Hp} (h : SrcOk Γ t a s μ H) : ItOk Γ (IteM t Γ.K a) (.enum s) μ H := fun μ' H' st' e sm i => by
  have base : ∀ o, Src.at st' i (.enum s) = some o → ∃ x, s.at st' i = some x ∧ o = x.map fun w => .tup [.int (i : Nat), w] := fun o ho => by
    have ho : (Src.at st' i s).map (fun o => o.map fun w => W.tup [.int (i : Nat), w]) = some o := ho
    cases ex : Src.at st' i s with
    | none => rw [ex] at ho; cases ho
    | some x => rw [ex] at ho; cases ho; exact ⟨x, rfl, rfl⟩
  refine ⟨fun w hw => ?_, fun hw => ?_⟩
  · obtain ⟨x, ex, eo⟩ := base _ hw
    obtain ⟨xs, q1, q2⟩ := h μ' H' st' e sm i x ex
    cases x with
    | none => cases eo
    | some x =>
      cases eo
      obtain ⟨v, hv, rv⟩ := q2
      refine ⟨⟨xs, v, q1, hv⟩, fun y H'' hy => ?_⟩
      obtain ⟨T, x', ⟨rfl, hT, rfl⟩, hx⟩ := hy
      have := hx xs q1
      rw [hv] at this
      cases this
      have E : Ext Γ.K μ' μ' H' (upd H' T (.tup [.int (i : Nat), v])) := ext_upd (.inl hT)
      exact ⟨E, sm.other hT, .tup (.inl (.inl upd_same)) (.cons (.int _) (.cons (rv.mono E) .nil))⟩
  · obtain ⟨x, ex, eo⟩ := base _ hw
    obtain ⟨xs, q1, q2⟩ := h μ' H' st' e sm i x ex
    cases x with
    | some x => cases eo
    | none => exact ⟨xs, q1, q2⟩
theorem qi_enumerate {p pos tpos : Pos} {elts : List Expr} {kk : Nat} (hK : X.K = Γ.K) (hg : Gl X "enumerate") (hm : X.mg "enumerate" = none) (ha : PA X [a] (tA Γ Wx eas)) (hs : starEach [a] X.env = [(false, eval a X.env)] := by rfl) :
    PI X (.Tuple elts kk tpos) (.Call (.Name "enumerate" p) [a] [] pos) (tI Γ Wx (vEnumerate eas)) :=
  PI_imp (pi_enumM hg hm ha hs) fun σ H R ⟨μ, l, st, hs, hl, h⟩ => vbind hs hl h _ fun ws st1 μ1 H1 xs e1 s1 r1 h1 => by
    rw [hK]
    cases r1 with
    | nil => exact h1.elim
    | @cons w1 v1 _ _ r tl =>
      cases tl with
      | cons _ _ => exact h1.elim
      | nil =>
        dsimp only at h1
        cases e3 : srcOf st1 w1 with
        | none => rw [e3] at h1; exact h1.elim
        | some s =>
          rw [e3] at h1
          obtain ⟨t, a, xs, ev, q1, k1⟩ := srcOf_ok s1 e3 r
          subst ev
          exact ⟨t, a, xs, rfl, q1, h1 μ1 H1 _ .refl s1 (itok_enum k1)⟩
end
end RB
namespace RB
open PySem PySem.Spec PyProof.Rows L2
end RB
namespace RB
open PySem PySem.Spec PyProof.Rows L2
section
variable {X : Cx} {Γ : Gf} {Wx : WX} {e a b o : Expr} {es : List Expr} {ea eb eo : Ev} {eas : Evs}
theorem FRep.none {K : PySem.W.Frag} {μ : List Addr} {H : Hp} {m : Str} : ∀ {fs : List (Str × W)} {gs : List (Str × V)}, FRep K μ H fs gs → fs.lookup m = none → gs.lookup m = none
  | _, _, .nil, _ => rfl
  | (g, x) :: _, (g', y) :: _, .cons a b, h => by
    obtain ⟨a1, a2⟩ := a
    have a1 : g = g' := a1
    subst a1
    rw [List.lookup_cons] at h ⊢
    split at h
    · cases h
    · exact FRep.none b h
structure FnM (Γ : Gm) (P : Program) (w : World) (mg : Str → Option Value) (base : Heap) (k : Nat) (m : Str) (c np : Nat) (F : List W → Sto → Res W) : Prop where
  ex : ∃ (f : Addr) (fd : FuncData) (ps : List Str), FnOk P w Γ.K mg base (L2.CX P w) k f fd ps (spF Γ np F) ∧ Meth Γ.K (Γ.cl c) m f ∧ L2.Binds Γ.K fd ps []
  mkd : Mark F
def eMeth (c : Nat) (m : Str) (F : List W → Sto → Res W) (o : Ev) (a : Evs) : Ev := fun l st => (o l st).bind fun x st1 => match x with
  | .ref n => match st1.c[n]? with
    | some (.ins k fs) => if k = c ∧ fs.lookup m = none then (a l st1).bind fun ws st2 => noX (F (.ref n :: ws) st2) else .err
    | _ => .err
  | _ => .err
theorem meth_sp {np k c : Nat} {m : Str} {F : List W → Sto → Res W} {μ : List Addr} {σ : L2.St} {H : Hp} {st : Sto} {n : Nat} {p : Addr} {ws : List W} {vs : List V} {Q : VK} (G : FnM Γ.toGm X.prog X.w X.mg X.base k m c np F) (hs : Sim Γ μ st H) (hm : μ[n]? = some p) (rv : Reps Γ.K μ H ws vs) (hl : ws.length + 1 = np) (h : Post Γ Wx (Rep Γ.K) μ σ H Q (noX (F (.ref n :: ws) st))) : spF Γ.toGm np F (.ref p :: vs) H Q E0 := by
  refine spF_gen G.mkd (ws := .ref n :: ws) hs (.cons (.ref hm) rv) hl ?_
  generalize F (.ref n :: ws) st = r at h ⊢
  cases r with
  | ok w st2 => exact h
  | exc c p st2 => exact h.elim
  | err => exact h.elim
theorem qe_meth {np k c : Nat} {m : Str} {F : List W → Sto → Res W} {apos pos : Pos} {pl : Sem Bool} (G : FnM Γ.toGm X.prog X.w X.mg X.base k m c np F) (hK : X.K = Γ.K) (hcl : Cls Γ.K (Γ.cl c)) (hr : Room k X.A) (ho : PE X o (tE Γ Wx eo)) (ha : PA X (e :: es) (tA Γ Wx eas)) (j : Nat) (hj : j + 1 = np) (hlen : evLen j eas)
    (hst : starEach (e :: es) X.env = (false, eval e X.env) :: starEach es X.env := by rfl) (hpl : (backTo pos (starEach es X.env)).any (·.1) = false := by rfl)
    (ht : eval (.Call (.Attribute o m apos) (e :: es) [] pos) X.env = (do
      let ov ← eval o X.env
      standAt apos.atName
      let (f, first) ← holding [ov] (getMethod ov m pl)
      callWith pos f first (backTo pos (starEach (e :: es) X.env)) (backToKw pos (keywordEach [] X.env))) := by rfl) : PE X (.Call (.Attribute o m apos) (e :: es) [] pos) (tE Γ Wx (eMeth c m F eo eas)) := by
  obtain ⟨f, fd, ps, F1, hm, hb⟩ := G.ex
  rw [← hK] at F1 hm hb hcl
  refine PE_imp (pe_meth (pl := pl) (dvs := []) (ds := []) (E := E0) ho hcl hm F1 hr hb .nil passL ha hst hpl ht) fun σ H Q ⟨μ, l, st, hs, hl, h⟩ => tG_bind hs hl h _ fun w st1 μ1 H1 v e1 s1 r1 h1 => ?_
  split at h1
  · rename_i n
    split at h1
    · rename_i k2 fs ec
      split at h1
      · rename_i hk2
        obtain ⟨hk2, hlk⟩ := hk2
        subst hk2
        cases r1 with
        | ref hmm =>
          rename_i p
          obtain ⟨dx, gs, q1, q2⟩ := s1.cell n _ _ ec hmm
          refine ⟨_, dx, gs, rfl, q1, q2.none hlk, μ1, l, st1, s1, hl.mono e1, ?_⟩
          cases ee : eas l st1 with
          | err => rw [ee] at h1; exact h1
          | exc c p st2 => rw [ee] at h1; exact h1
          | ok ws st2 =>
            rw [ee] at h1
            intro μ2 H2 vs e2 s2 r2
            have hp2 := e2.pre _ _ hmm
            have h3 := Post.mono (show Post Γ Wx (Rep Γ.K) μ1 σ H1 Q (noX (F (.ref n :: ws) st2)) from h1) e2
            have := meth_sp G s2 hp2 r2 (by rw [hlen l st1 ws st2 ee]; exact hj) h3
            rw [List.append_nil]
            exact this
      · exact h1.elim
    · exact h1.elim
  · exact h1.elim
end
end RB
namespace RB
open PySem PySem.Spec PyProof.Rows L2
section
variable {X : Cx} {Γ : Gf} {Wx : WX} {e a b o o' : Expr} {es : List Expr} {ea eb eo eo' : Ev} {eas : Evs}
theorem qe_meth0 {k c : Nat} {m : Str} {F : List W → Sto → Res W} {apos pos : Pos} {pl : Sem Bool} (G : FnM Γ.toGm X.prog X.w X.mg X.base k m c 1 F) (hK : X.K = Γ.K) (hcl : Cls Γ.K (Γ.cl c)) (hr : Room k X.A) (ho : PE X o (tE Γ Wx eo))
    (ht : eval (.Call (.Attribute o m apos) [] [] pos) X.env = (do
      let ov ← eval o X.env
      standAt apos.atName
      let (f, first) ← holding [ov] (getMethod ov m pl)
      callWith pos f first (backTo pos (starEach [] X.env)) (backToKw pos (keywordEach [] X.env))) := by rfl) : PE X (.Call (.Attribute o m apos) [] [] pos) (tE Γ Wx (eMeth c m F eo evNil)) := by
  obtain ⟨f, fd, ps, F1, hm, hb⟩ := G.ex
  rw [← hK] at F1 hm hb hcl
  refine PE_imp (pe_meth0 (pl := pl) (dvs := []) (ds := []) (E := E0) ho hcl hm F1 hr hb .nil passL ht) fun σ H Q ⟨μ, l, st, hs, hl, h⟩ => tG_bind hs hl h _ fun w st1 μ1 H1 v e1 s1 r1 h1 => ?_
  split at h1
  · rename_i n
    split at h1
    · rename_i k2 fs ec
      split at h1
      · rename_i hk2
        obtain ⟨hk2, hlk⟩ := hk2
        subst hk2
        cases r1 with
        | ref hmm =>
          rename_i p
          obtain ⟨dx, gs, q1, q2⟩ := s1.cell n _ _ ec hmm
          refine ⟨_, dx, gs, rfl, q1, q2.none hlk, ?_⟩
          exact meth_sp G s1 hmm .nil rfl h1
      · exact h1.elim
    · exact h1.elim
  · exact h1.elim
end
end RB
namespace RB
end RB
namespace RB
open PySem PySem.Spec PyProof.Rows L2
end RB
namespace RB
open PySem PySem.Spec PyProof.Rows L2
end RB
namespace RB
open PySem PySem.Spec PyProof.Rows L2
end RB
namespace RB
open PySem PySem.Spec PyProof.Rows L2
def eErr : Ev := fun _ _ => .err
section
variable {X : Cx} {Γ : Gf} {Wx : WX} {e : Expr}
theorem qe_err : PE X e (tE Γ Wx eErr) := ⟨fun pins s σ H Q I ⟨μ, l, st, hs, hl, h⟩ => h.elim⟩
end
end RB
namespace RB
open PySem PySem.Spec PyProof.Rows L2
section
variable {X : XP} {P : W → Sto → Prop} {st : Sto} {a b : Int}
theorem run_eq {α : Type} {r : Res α} {a : α} {s : Sto} (h : Ok r (fun _ _ _ => False) fun b t => b = a ∧ t = s) : r = .ok a s := by
  cases r with
  | ok b t => obtain ⟨rfl, rfl⟩ := h; rfl
  | exc c p t => exact h.elim
  | err => exact h.elim
theorem run_int {r : Res W} {s : Sto} {Q : Int → Prop} (h : Ok r (fun _ _ _ => False) fun b t => ∃ v, b = .int v ∧ Q v ∧ t = s) : ∃ v, Q v ∧ r = .ok (.int v) s := by
  cases r with
  | ok b t => obtain ⟨v, rfl, q, rfl⟩ := h; exact ⟨v, q, rfl⟩
  | exc c p t => exact h.elim
  | err => exact h.elim
theorem v_add : Ok (wAdd (.int a) (.int b) st) X P = P (.int (a + b)) st := rfl
theorem v_sub : Ok (wSub (.int a) (.int b) st) X P = P (.int (a - b)) st := rfl
theorem v_mul : Ok (wMul (.int a) (.int b) st) X P = if mulOk a b = true then P (.int (a * b)) st else False := by
  show Ok (if mulOk a b = true then Res.ok (W.int (a * b)) st else .err) X P = _; rw [k_ite]; rfl
theorem v_mod : Ok (wMod (.int a) (.int b) st) X P = if 0 < b then P (.int (a % b)) st else False := by
  show Ok (if 0 < b then Res.ok (W.int (a % b)) st else .err) X P = _; rw [k_ite]; rfl
theorem v_div : Ok (wDiv (.int a) (.int b) st) X P = if divOk b = true then P (.int (a / b)) st else False := by
  show Ok (if divOk b = true then Res.ok (W.int (a / b)) st else .err) X P = _; rw [k_ite]; rfl
theorem v_lt : Ok (wLt (.int a) (.int b) st) X P = P (.bl (decide (a < b))) st := rfl
theorem v_le : Ok (wLe (.int a) (.int b) st) X P = P (.bl (decide (a ≤ b))) st := rfl
theorem v_gt : Ok (wGt (.int a) (.int b) st) X P = P (.bl (decide (b < a))) st := rfl
theorem v_ge : Ok (wGe (.int a) (.int b) st) X P = P (.bl (decide (b ≤ a))) st := rfl
theorem v_eq : Ok (wEq (.int a) (.int b) st) X P = P (.bl (decide (a = b))) st := by
  show P (.bl (PyData.eqv (.int a) (.int b))) st = _
  have : PyData.eqv (.int a) (.int b) = decide (a = b) := by first | rfl | simp [PyData.eqv]
  rw [this]
theorem v_ne : Ok (wNe (.int a) (.int b) st) X P = P (.bl (!decide (a = b))) st := by
  show P (.bl (!PyData.eqv (.int a) (.int b))) st = _
  have : PyData.eqv (.int a) (.int b) = decide (a = b) := by first | rfl | simp [PyData.eqv]
  rw [this]
theorem v_neg : Ok (wNeg (.int a) st) X P = P (.int (-a)) st := rfl
theorem v_int : Ok (fInt [.int a] st) X P = P (.int a) st := rfl
theorem v_min : Ok (fMin2 [.int a, .int b] st) X P = P (.int (if b < a then b else a)) st := rfl
theorem v_ix {x : W} {ws : List W} {w : W} (h : seqOf st x = some ws) (h2 : atI ws a = some w) : Ok (wIx x (.int a) st) X P = P w st := by
  unfold wIx; simp only [h, h2]; rfl
theorem v_lenL {x : W} {ws : List W} (hx : ∀ z, x ≠ .str z) (h : seqOf st x = some ws) : Ok (fLen [x] st) X P = P (.int (ws.length : Nat)) st := by
  cases x <;> first | exact absurd rfl (hx _) | (simp only [fLen, h]; rfl)
theorem v_tup {x : W} {ws : List W} (h : seqOf st x = some ws) : Ok (fTuple [x] st) X P = P (.tup ws) st := by
  unfold fTuple; simp only [h]; rfl
theorem atI_in {α : Type} {xs : List α} (h0 : 0 ≤ a) (h1 : a < xs.length) : atI xs a = xs[a.toNat]? := by
  unfold atI ixN; rw [if_pos h0, if_pos h1]; rfl
theorem mulOk_lt {a b : Int} {m n : Nat} (ha : a.natAbs < 2 ^ m) (hb : b.natAbs < 2 ^ n) (h0 : 0 < m) (h1 : 0 < n) (h : m + n ≤ 100000000) : mulOk a b = true := by
  have x := PySem.Flt.log2_lt_of h0 ha
  have y := PySem.Flt.log2_lt_of h1 hb
  unfold mulOk
  exact decide_eq_true (by omega)
end
end RB
namespace RB
open PySem PySem.Spec PyProof.Rows L2
def frW (q : Rat) : W := .tup [.int q.num, .int (q.den : Nat)]
def Bq (k : Nat) (q : Rat) : Prop := q.num.natAbs < 2 ^ k ∧ q.den < 2 ^ k
theorem Bq.mono {k l : Nat} {q : Rat} (h : Bq k q) (hl : k ≤ l) : Bq l q := ⟨Nat.lt_of_lt_of_le h.1 (Nat.pow_le_pow_right (by decide) hl), Nat.lt_of_lt_of_le h.2 (Nat.pow_le_pow_right (by decide) hl)⟩
theorem div_bd {b : Nat} (h0 : 0 < b) (hb : b < 2 ^ 8000) : divOk (b : Int) = true := by
  unfold divOk
  rw [decide_eq_true (by omega : (0 : Int) < (b : Int)), Int.natAbs_natCast, Bool.true_and]
  refine decide_eq_true ?_
  have : b.log2 < 8000 := (Nat.log2_lt (by omega)).mpr hb
  omega
theorem frW_mk {a : Int} {b : Nat} (h0 : b ≠ 0) : frW (mkRat a b) = .tup [.int (a / ((Nat.gcd a.natAbs b : Nat) : Int)), .int (((b : Nat) : Int) / ((Nat.gcd a.natAbs b : Nat) : Int))] := by
  unfold frW
  rw [Rat.num_mkRat, Rat.den_mkRat, if_neg h0, if_neg h0, Nat.gcd_comm, Int.natCast_ediv]
end RB
namespace RB
open PySem PySem.Spec PyProof.Rows L2
end RB
namespace RB
structure PoolQ (k s : Rat) : Prop where
  k0 : 0 ≤ k
  k1 : k < 1
  s0 : 0 < s
  s1 : s ≤ 1
  sd : s.den ≤ 100
  kd : k.den ≤ 1000
section
variable {k s D u : Rat} {S x : Nat}
theorem num_le_den {q : Rat} (h1 : q ≤ 1) : q.num ≤ (q.den : Nat) := by
  have := (Rat.le_iff q 1).mp h1
  rw [Rat.one_num, Rat.one_den] at this
  simpa using this
theorem PoolQ.bk (h : PoolQ k s) : Bq 10 k := by
  have h1 := num_le_den (Rat.le_of_lt h.k1)
  have h2 := Rat.num_nonneg.mpr h.k0
  have h3 := h.kd
  exact ⟨by omega, by omega⟩
end
end RB
namespace RB
end RB
namespace RB
end RB
set_option maxHeartbeats 1000000
namespace RB
abbrev Col := Nat → Int
def altSum (h : Col → List Col → Int) : Int → List Col → List Col → Int
  | _, _, [] => 0
  | s, pre, v :: post => s * h v (pre ++ post) + altSum h (-s) (pre ++ [v]) post
def det : Nat → Nat → List Col → Int
  | 0, _, vs => if vs.isEmpty then 1 else 0
  | k + 1, r, vs => altSum (fun v rest => v r * det k (r + 1) rest) 1 [] vs
def lin (x : Int) (a : Col) (y : Int) (b : Col) : Col := fun i => x * a i + y * b i
theorem altSum_lin (h : Col → List Col → Int) (x y : Int) (a b : Col)
    (h1 : ∀ rest, h (lin x a y b) rest = x * h a rest + y * h b rest)
    (h2 : ∀ v l1 l2, h v (l1 ++ lin x a y b :: l2) = x * h v (l1 ++ a :: l2) + y * h v (l1 ++ b :: l2)) (post : List Col) :
    ∀ (l : List Col) (s : Int) (pre : List Col), altSum h s pre (l ++ lin x a y b :: post) = x * altSum h s pre (l ++ a :: post) + y * altSum h s pre (l ++ b :: post)
  | [], s, pre => by
    have tail : ∀ (q : List Col) (s : Int) (l1 l2 : List Col), altSum h s (l1 ++ lin x a y b :: l2) q = x * altSum h s (l1 ++ a :: l2) q + y * altSum h s (l1 ++ b :: l2) q := fun q => by
      induction q with
      | nil => intro s l1 l2; simp [altSum]
      | cons v q ih =>
        intro s l1 l2
        have e1 := ih (-s) l1 (l2 ++ [v])
        have e2 := h2 v l1 (l2 ++ q)
        simp only [altSum, List.append_assoc, List.cons_append] at e1 e2 ⊢
        rw [e1, e2]
        grind
    have e1 := tail post (-s) pre []
    simp only [List.nil_append, altSum]
    rw [h1, e1]
    grind
  | w :: l, s, pre => by
    have ih := altSum_lin h x y a b h1 h2 post l (-s) (pre ++ [w])
    have e2 := h2 w (pre ++ l) post
    simp only [List.append_assoc] at e2
    simp only [List.cons_append, altSum, ih, e2]
    grind
theorem det_lin (x y : Int) (a b : Col) : ∀ (k r : Nat) (l post : List Col), det k r (l ++ lin x a y b :: post) = x * det k r (l ++ a :: post) + y * det k r (l ++ b :: post)
  | 0, r, l, post => by
    have e : ∀ z : Col, det 0 r (l ++ z :: post) = 0 := fun z => by
      show (if (l ++ z :: post).isEmpty then (1 : Int) else 0) = 0
      rw [if_neg]
      cases l <;> simp
    rw [e, e, e]; simp
  | k + 1, r, l, post => by
    refine altSum_lin (fun v rest => v r * det k (r + 1) rest) x y a b (fun rest => ?_) (fun v l1 l2 => ?_) post l 1 []
    · show (x * a r + y * b r) * _ = _
      grind
    · show v r * det k (r + 1) (l1 ++ lin x a y b :: l2) = _
      rw [det_lin x y a b k (r + 1) l1 l2]
      grind
theorem altSum_alt (h : Col → List Col → Int) (a : Col) (h2 : ∀ v l1 l2, h v (l1 ++ a :: a :: l2) = 0) (post : List Col) : ∀ (l : List Col) (s : Int) (pre : List Col), altSum h s pre (l ++ a :: a :: post) = 0
  | [], s, pre => by
    have tail : ∀ (q : List Col) (s : Int) (l1 l2 : List Col), altSum h s (l1 ++ a :: a :: l2) q = 0 := fun q => by
      induction q with
      | nil => intro s l1 l2; rfl
      | cons v q ih =>
        intro s l1 l2
        have e1 := ih (-s) l1 (l2 ++ [v])
        have e2 := h2 v l1 (l2 ++ q)
        simp only [altSum, List.append_assoc, List.cons_append] at e1 e2 ⊢
        rw [e1, e2]; simp
    have e1 := tail post (-(-s)) pre []
    have e0 : pre ++ [a] ++ [a] = pre ++ a :: a :: [] := by simp
    simp only [List.nil_append, altSum]
    rw [e0, e1]
    have e2 : pre ++ [a] ++ post = pre ++ a :: post := by simp
    rw [e2]
    grind
  | w :: l, s, pre => by
    have ih := altSum_alt h a h2 post l (-s) (pre ++ [w])
    have e2 := h2 w (pre ++ l) post
    simp only [List.append_assoc] at e2
    simp only [List.cons_append, altSum, ih, e2]
    simp
theorem det_alt1 (a : Col) : ∀ (k r : Nat) (l post : List Col), det k r (l ++ a :: a :: post) = 0
  | 0, r, l, post => by
    show (if (l ++ a :: a :: post).isEmpty then (1 : Int) else 0) = 0
    rw [if_neg]
    cases l <;> simp
  | k + 1, r, l, post => altSum_alt (fun v rest => v r * det k (r + 1) rest) a (fun v l1 l2 => by
      show v r * det k (r + 1) (l1 ++ a :: a :: l2) = 0
      rw [det_alt1 a k (r + 1) l1 l2, Int.mul_zero]) post l 1 []
theorem det_swap1 (a b : Col) (k r : Nat) (l post : List Col) : det k r (l ++ a :: b :: post) = -det k r (l ++ b :: a :: post) := by
  have h := det_alt1 (lin 1 a 1 b) k r l post
  have e1 := det_lin 1 1 a b k r l (lin 1 a 1 b :: post)
  have e2 := det_lin 1 1 a b k r (l ++ [a]) post
  have e3 := det_lin 1 1 a b k r (l ++ [b]) post
  have a1 := det_alt1 a k r l post
  have a2 := det_alt1 b k r l post
  simp only [List.append_assoc, List.cons_append, List.nil_append] at e2 e3
  rw [e1, e2, e3, a1, a2] at h
  grind
theorem det_alt (a : Col) (k r : Nat) (post : List Col) : ∀ (m l : List Col), det k r (l ++ a :: (m ++ a :: post)) = 0
  | [], l => det_alt1 a k r l post
  | w :: m, l => by
    have ih := det_alt a k r post m (l ++ [w])
    simp only [List.append_assoc, List.cons_append, List.nil_append] at ih
    have e := det_swap1 a w k r l (m ++ a :: post)
    show det k r (l ++ a :: w :: (m ++ a :: post)) = 0
    rw [e, ih]; rfl
theorem set_split {α : Type} (l : List α) (s : Nat) (v : α) (h : s < l.length) : l.set s v = l.take s ++ v :: l.drop (s + 1) := by
  rw [List.set_eq_take_append_cons_drop, if_pos h]
section
variable {k : Nat} {β : List Col}
def D (k : Nat) (β : List Col) : Int := det k 0 β
theorem D_lin {s : Nat} (hs : s < β.length) (x y : Int) (a b : Col) : D k (β.set s (lin x a y b)) = x * D k (β.set s a) + y * D k (β.set s b) := by
  unfold D
  rw [set_split _ _ _ hs, set_split _ _ _ hs, set_split _ _ _ hs]
  exact det_lin x y a b k 0 _ _
theorem D_alt {s t : Nat} {a : Col} (hst : s < t) (h1 : β[s]? = some a) (h2 : β[t]? = some a) : D k β = 0 := by
  obtain ⟨hs, e1⟩ := List.getElem?_eq_some_iff.mp h1
  obtain ⟨ht, e2⟩ := List.getElem?_eq_some_iff.mp h2
  have e : β = β.take s ++ a :: ((β.drop (s + 1)).take (t - (s + 1)) ++ a :: β.drop (t + 1)) := by
    conv => lhs; rw [← List.take_append_drop s β]
    congr 1
    rw [List.drop_eq_getElem_cons hs, e1]
    congr 1
    conv => lhs; rw [← List.take_append_drop (t - (s + 1)) (β.drop (s + 1))]
    congr 1
    rw [List.drop_drop]
    have : s + 1 + (t - (s + 1)) = t := by omega
    rw [this, List.drop_eq_getElem_cons ht, e2]
  rw [e]
  exact det_alt a k 0 _ _ _
theorem D_eq {s t : Nat} {a : Col} (hst : s ≠ t) (h1 : β[s]? = some a) (h2 : β[t]? = some a) : D k β = 0 := by
  rcases Nat.lt_or_gt_of_ne hst with h | h
  · exact D_alt h h1 h2
  · exact D_alt h h2 h1
theorem D_set_self {s : Nat} {a : Col} (h : β[s]? = some a) : β.set s a = β := by
  obtain ⟨hs, e⟩ := List.getElem?_eq_some_iff.mp h
  subst e
  exact List.set_getElem_self hs
theorem D_swap {r i : Nat} (hr : r < β.length) (hi : i < β.length) (h : r ≠ i) (x y : Col) : D k ((β.set r x).set i y) = -D k ((β.set r y).set i x) := by
  have z : ∀ v, D k ((β.set r v).set i v) = 0 := fun v => D_eq (a := v) h (by rw [List.getElem?_set_ne (Ne.symm h), List.getElem?_set_self hr]) (by rw [List.getElem?_set_self (by rw [List.length_set]; exact hi)])
  have h0 := z (lin 1 x 1 y)
  have hi2 : ∀ v, i < (β.set r v).length := fun v => by rw [List.length_set]; exact hi
  rw [D_lin (hi2 _)] at h0
  have c : ∀ u v : Col, (β.set r u).set i v = (β.set i v).set r u := fun u v => List.set_comm _ _ h
  have hr2 : ∀ v, r < (β.set i v).length := fun v => by rw [List.length_set]; exact hr
  rw [c, c, D_lin (hr2 _), D_lin (hr2 _), ← c, ← c, ← c, ← c, z, z] at h0
  grind
end
def unitC (t : Nat) : Col := fun i => if i = t then 1 else 0
end RB
namespace RB
def cS : Nat → (Nat → Int) → Int
  | 0, _ => 0
  | k + 1, g => cS k g + g k
theorem cS_congr {f g : Nat → Int} : ∀ {k : Nat}, (∀ s, s < k → f s = g s) → cS k f = cS k g
  | 0, _ => rfl
  | k + 1, h => by
    show cS k f + f k = cS k g + g k
    rw [cS_congr fun s hs => h s (by omega), h k (by omega)]
theorem cS_zero {g : Nat → Int} : ∀ {k : Nat}, (∀ s, s < k → g s = 0) → cS k g = 0
  | 0, _ => rfl
  | k + 1, h => by
    show cS k g + g k = 0
    rw [cS_zero fun s hs => h s (by omega), h k (by omega)]; rfl
theorem cS_add (f g : Nat → Int) : ∀ k, cS k (fun s => f s + g s) = cS k f + cS k g
  | 0 => rfl
  | k + 1 => by
    show cS k (fun s => f s + g s) + (f k + g k) = (cS k f + f k) + (cS k g + g k)
    rw [cS_add f g k]; omega
theorem cS_mul (x : Int) (f : Nat → Int) : ∀ k, cS k (fun s => x * f s) = x * cS k f
  | 0 => by show (0 : Int) = x * 0; simp
  | k + 1 => by
    show cS k (fun s => x * f s) + x * f k = x * (cS k f + f k)
    rw [cS_mul x f k, Int.mul_add]
theorem cS_one {g : Nat → Int} {i : Nat} : ∀ {k : Nat}, i < k → (∀ s, s < k → s ≠ i → g s = 0) → cS k g = g i
  | k + 1, hi, h => by
    show cS k g + g k = g i
    by_cases e : i = k
    · subst e
      rw [cS_zero fun s hs => h s (by omega) (by omega)]; simp
    · rw [cS_one (i := i) (by omega) fun s hs hn => h s (by omega) hn, h k (by omega) (fun q => e q.symm)]; simp
theorem cS_two {g : Nat → Int} {i r : Nat} (hir : i ≠ r) : ∀ {k : Nat}, i < k → r < k → (∀ s, s < k → s ≠ i → s ≠ r → g s = 0) → cS k g = g i + g r
  | k + 1, hi, hr, h => by
    show cS k g + g k = g i + g r
    by_cases e : i = k
    · subst e
      rw [cS_one (i := r) (by omega) fun s hs hn => h s (by omega) (by omega) hn]; omega
    · by_cases e2 : r = k
      · subst e2
        rw [cS_one (i := i) (by omega) fun s hs hn => h s (by omega) hn (by omega)]
      · rw [cS_two hir (by omega) (by omega) fun s hs h1 h2 => h s (by omega) h1 h2, h k (by omega) (fun q => e q.symm) (fun q => e2 q.symm)]; omega
def colAt (β : List Col) (s : Nat) : Col := β.getD s fun _ => 0
theorem colAt_get {β : List Col} {s : Nat} {a : Col} (h : β[s]? = some a) : colAt β s = a := by unfold colAt; rw [List.getD_eq_getElem?_getD, h]; rfl
theorem colAt_lt {β : List Col} {s : Nat} (h : s < β.length) : β[s]? = some (colAt β s) := by
  rw [List.getElem?_eq_getElem h]
  congr 1
  exact (colAt_get (List.getElem?_eq_getElem h)).symm
def comb (k : Nat) (f : Nat → Int) (b : Nat → Col) : Col := fun i => cS k fun s => f s * b s i
section
variable {k : Nat} {β : List Col} {r i : Nat} {c l v : Col}
theorem D_comb (hi : i < β.length) (f : Nat → Int) (b : Nat → Col) : ∀ m, D k (β.set i (comb m f b)) = cS m fun s => f s * D k (β.set i (b s))
  | 0 => by
    have e := D_lin (k := k) hi 0 0 (fun _ => 0) (fun _ => 0)
    have z : lin 0 (fun _ => 0) 0 (fun _ => 0) = comb 0 f b := by funext j; simp [lin, comb, cS]
    rw [z] at e
    rw [e]; simp [cS]
  | m + 1 => by
    have z : comb (m + 1) f b = lin 1 (comb m f b) (f m) (b m) := by
      funext j
      show cS m _ + f m * b m j = 1 * cS m _ + f m * b m j
      rw [Int.one_mul]
    rw [z, D_lin hi, D_comb hi f b m]
    show 1 * _ + _ = cS m _ + _
    rw [Int.one_mul]
def Sup (k : Nat) (v : Col) : Prop := ∀ i, k ≤ i → v i = 0
def Cram (k : Nat) (β : List Col) : Prop := ∀ v, Sup k v → ∀ i, D k β * v i = cS k fun s => D k (β.set s v) * colAt β s i
theorem Cram.col (h : Cram k β) (hv : Sup k v) : (fun i => D k β * v i) = comb k (fun s => D k (β.set s v)) (colAt β) := funext fun i => h v hv i
theorem D_scale (hi : i < β.length) (x : Int) (v : Col) : D k (β.set i fun j => x * v j) = x * D k (β.set i v) := by
  have e := D_lin (k := k) hi x 0 v v
  have z : lin x v 0 v = fun j => x * v j := by funext j; simp [lin]
  rw [z] at e
  rw [e]; simp
theorem pivot_id (hl : β.length = k) (h : Cram k β) (hr : r < k) (hi : i < k) (hri : r ≠ i) (hL : Sup k l) : D k β * D k ((β.set r c).set i l) = D k (β.set r c) * D k (β.set i l) - D k (β.set i c) * D k (β.set r l) := by
  have hi1 : i < (β.set r c).length := by rw [List.length_set]; omega
  rw [← D_scale hi1, h.col hL, D_comb hi1, cS_two hri hr hi]
  · have e1 : D k ((β.set r c).set i (colAt β r)) = -D k (β.set i c) := by
      rw [D_swap (by omega) (by omega) hri]
      congr 2
      rw [D_set_self (colAt_lt (by omega))]
    have e2 : (β.set r c).set i (colAt β i) = β.set r c := D_set_self (by
      rw [List.getElem?_set_ne hri]
      exact colAt_lt (by omega))
    rw [e1, e2]
    grind
  · intro s hs h1 h2
    have z : D k ((β.set r c).set i (colAt β s)) = 0 := by
      refine D_eq (s := s) (t := i) (a := colAt β s) h2 ?_ ?_
      · rw [List.getElem?_set_ne (Ne.symm h2), List.getElem?_set_ne (Ne.symm h1)]
        exact colAt_lt (by omega)
      · rw [List.getElem?_set_self hi1]
    rw [z, Int.mul_zero]
theorem set_set_same (r : Nat) (c l : Col) : (β.set r c).set r l = β.set r l := List.set_set ..
theorem Cram.step (hl : β.length = k) (h : Cram k β) (hd : D k β ≠ 0) (hr : r < k) (hc : Sup k c) : Cram k (β.set r c) := by
  intro v hv i
  refine Int.eq_of_mul_eq_mul_left hd ?_
  have term : ∀ s, s < k → D k β * (D k ((β.set r c).set s v) * colAt (β.set r c) s i) = (D k (β.set r c) * (D k (β.set s v) * colAt β s i)) - D k (β.set r v) * (D k (β.set s c) * colAt β s i) + (if s = r then D k (β.set r v) * (D k β * c i) else 0) := fun s hs => by
    by_cases e : s = r
    · subst e
      rw [if_pos rfl, set_set_same]
      have z : colAt (β.set s c) s = c := colAt_get (List.getElem?_set_self (by omega))
      rw [z]
      grind
    · rw [if_neg e]
      have z : colAt (β.set r c) s = colAt β s := colAt_get (by
        rw [List.getElem?_set_ne (fun q => e q.symm)]
        exact colAt_lt (by omega))
      have q := pivot_id hl h hr hs (fun q => e q.symm) hv (c := c)
      rw [z, ← Int.mul_assoc, q]
      grind
  rw [← cS_mul, cS_congr term, cS_add, cS_one (i := r) hr (fun s hs hn => if_neg hn), if_pos rfl]
  have e1 := h v hv i
  have e2 := h c hc i
  have sp : cS k (fun s => D k (β.set r c) * (D k (β.set s v) * colAt β s i) - D k (β.set r v) * (D k (β.set s c) * colAt β s i)) = D k (β.set r c) * (D k β * v i) - D k (β.set r v) * (D k β * c i) := by
    rw [e1, e2, ← cS_mul, ← cS_mul]
    have := cS_add (fun s => D k (β.set r c) * (D k (β.set s v) * colAt β s i)) (fun s => -(D k (β.set r v) * (D k (β.set s c) * colAt β s i))) k
    have n := cS_mul (-1) (fun s => D k (β.set r v) * (D k (β.set s c) * colAt β s i)) k
    have n2 : cS k (fun s => -(D k (β.set r v) * (D k (β.set s c) * colAt β s i))) = -1 * cS k fun s => D k (β.set r v) * (D k (β.set s c) * colAt β s i) := by
      rw [← n]
      exact cS_congr fun s _ => by simp
    rw [n2] at this
    have c2 : cS k (fun s => D k (β.set r c) * (D k (β.set s v) * colAt β s i) - D k (β.set r v) * (D k (β.set s c) * colAt β s i)) = cS k (fun s => D k (β.set r c) * (D k (β.set s v) * colAt β s i) + -(D k (β.set r v) * (D k (β.set s c) * colAt β s i))) := cS_congr fun s _ => by omega
    rw [c2, this]
    omega
  rw [sp]
  grind
def units (k : Nat) : List Col := (List.range' 0 k).map unitC
end
end RB
namespace RB
structure Sys where
  n : Nat
  m : Nat
  col : Nat → Col
  b : Col
structure SysOk (Y : Sys) : Prop where
  sup : ∀ j, j < Y.n + Y.m → Sup (Y.m + 1) (Y.col j)
  supb : Sup (Y.m + 1) Y.b
  unit : ∀ i, i < Y.m → Y.col (Y.n + i) = unitC i
variable {Y : Sys} {ins ins' : List Nat} {i j r c q : Nat} {v : Col}
def base (Y : Sys) (ins : List Nat) : List Col := ins.map Y.col ++ [unitC Y.m]
def T (Y : Sys) (ins : List Nat) (i : Nat) (v : Col) : Int := D (Y.m + 1) ((base Y ins).set i v)
def dv (Y : Sys) (ins : List Nat) : Int := D (Y.m + 1) (base Y ins)
structure Base (Y : Sys) (ins : List Nat) : Prop where
  len : ins.length = Y.m
  nd : ins.Nodup
  lt : ∀ j ∈ ins, j < Y.n + Y.m
  cr : Cram (Y.m + 1) (base Y ins)
  pos : 0 < dv Y ins
  fe : ∀ i, i < Y.m → 0 ≤ T Y ins i Y.b
theorem base_len (h : ins.length = Y.m) : (base Y ins).length = Y.m + 1 := by unfold base; rw [List.length_append, List.length_map, h]; rfl
theorem base_set (h : ins.length = Y.m) (hr : r < Y.m) : base Y (ins.set r c) = (base Y ins).set r (Y.col c) := by
  unfold base
  rw [List.map_set, List.set_append_left _ _ (by rw [List.length_map]; omega)]
theorem dv_set (h : ins.length = Y.m) (hr : r < Y.m) : dv Y (ins.set r c) = T Y ins r (Y.col c) := by unfold dv T; rw [base_set h hr]
theorem T_set_r (h : ins.length = Y.m) (hr : r < Y.m) (v : Col) : T Y (ins.set r c) r v = T Y ins r v := by unfold T; rw [base_set h hr, List.set_set]
theorem T_set (hB : Base Y ins) (hr : r < Y.m) (hi : i ≤ Y.m) (hri : r ≠ i) (hv : Sup (Y.m + 1) v) : dv Y ins * T Y (ins.set r c) i v = T Y ins r (Y.col c) * T Y ins i v - T Y ins i (Y.col c) * T Y ins r v := by
  have := pivot_id (base_len hB.len) hB.cr (show r < Y.m + 1 by omega) (show i < Y.m + 1 by omega) hri hv (c := Y.col c)
  unfold dv T
  rw [base_set hB.len hr]
  exact this
structure Step (Y : Sys) (ins : List Nat) (r c : Nat) : Prop where
  rm : r < Y.m
  cn : c < Y.n + Y.m
  out : c ∉ ins
  neg : T Y ins Y.m (Y.col c) < 0
  least : ∀ j, j < c → j ∉ ins → 0 ≤ T Y ins Y.m (Y.col j)
  piv : 0 < T Y ins r (Y.col c)
  soon : ∀ i, i < Y.m → 0 < T Y ins i (Y.col c) → T Y ins r Y.b * T Y ins i (Y.col c) ≤ T Y ins i Y.b * T Y ins r (Y.col c)
  tie : ∀ i a b, i < Y.m → 0 < T Y ins i (Y.col c) → T Y ins r Y.b * T Y ins i (Y.col c) = T Y ins i Y.b * T Y ins r (Y.col c) → ins[r]? = some a → ins[i]? = some b → a ≤ b
theorem nd_iff {l : List Nat} : l.Nodup ↔ ∀ x y, x < y → y < l.length → l[x]? ≠ l[y]? := by
  unfold List.Nodup
  rw [List.pairwise_iff_getElem]
  constructor
  · intro h x y hxy hy e
    rw [List.getElem?_eq_getElem (by omega), List.getElem?_eq_getElem hy] at e
    exact h x y (by omega) hy hxy (Option.some.inj e)
  · intro h x y hx hy hxy e
    exact h x y hxy hy (by rw [List.getElem?_eq_getElem hx, List.getElem?_eq_getElem hy, e])
theorem Base.step (hY : SysOk Y) (hB : Base Y ins) (h : Step Y ins r c) : Base Y (ins.set r c) := by
  have hr := h.rm
  refine ⟨by rw [List.length_set]; exact hB.len, ?_, fun j hj => ?_, ?_, ?_, fun i hi => ?_⟩
  · rw [nd_iff]
    intro x y hxy hy
    rw [List.length_set] at hy
    by_cases e1 : x = r
    · subst e1
      rw [List.getElem?_set_self (by rw [hB.len]; omega), List.getElem?_set_ne (by omega)]
      intro e
      exact h.out (List.mem_of_getElem? e.symm)
    · by_cases e2 : y = r
      · subst e2
        rw [List.getElem?_set_self (by rw [hB.len]; omega), List.getElem?_set_ne (by omega)]
        intro e
        exact h.out (List.mem_of_getElem? e)
      · rw [List.getElem?_set_ne (by omega), List.getElem?_set_ne (by omega)]
        exact (nd_iff.mp hB.nd) x y hxy hy
  · rcases List.mem_or_eq_of_mem_set hj with q | q
    · exact hB.lt j q
    · rw [q]; exact h.cn
  · rw [base_set hB.len hr]
    exact hB.cr.step (base_len hB.len) (Int.ne_of_gt hB.pos) (by omega) (hY.sup c h.cn)
  · rw [dv_set hB.len hr]; exact h.piv
  · by_cases e : r = i
    · subst e
      rw [T_set_r hB.len hr]; exact hB.fe r hr
    · have q := T_set (c := c) hB hr (Nat.le_of_lt hi) e hY.supb
      have f1 := hB.fe i hi
      have f2 := hB.fe r hr
      have : 0 ≤ T Y ins r (Y.col c) * T Y ins i Y.b - T Y ins i (Y.col c) * T Y ins r Y.b := by
        by_cases g : 0 < T Y ins i (Y.col c)
        · have := h.soon i hi g
          rw [Int.mul_comm (T Y ins r (Y.col c)), Int.mul_comm (T Y ins i (Y.col c))]
          omega
        · have p1 : 0 ≤ T Y ins r (Y.col c) * T Y ins i Y.b := Int.mul_nonneg (Int.le_of_lt h.piv) f1
          have p2 : T Y ins i (Y.col c) * T Y ins r Y.b ≤ 0 := Int.mul_nonpos_of_nonpos_of_nonneg (by omega) f2
          omega
      rw [← q] at this
      exact Int.nonneg_of_mul_nonneg_right this hB.pos
theorem val_step (hB : Base Y ins) (hY : SysOk Y) (h : Step Y ins r c) : dv Y ins * T Y (ins.set r c) Y.m Y.b = T Y ins r (Y.col c) * T Y ins Y.m Y.b - T Y ins Y.m (Y.col c) * T Y ins r Y.b := T_set hB h.rm (Nat.le_refl _) (by have := h.rm; omega) hY.supb
def valLe (Y : Sys) (ins ins' : List Nat) : Prop := T Y ins Y.m Y.b * dv Y ins' ≤ T Y ins' Y.m Y.b * dv Y ins
def valLt (Y : Sys) (ins ins' : List Nat) : Prop := T Y ins Y.m Y.b * dv Y ins' < T Y ins' Y.m Y.b * dv Y ins
theorem val_up (hB : Base Y ins) (hY : SysOk Y) (h : Step Y ins r c) : valLe Y ins (ins.set r c) ∧ (0 < T Y ins r Y.b → valLt Y ins (ins.set r c)) := by
  have e := val_step hB hY h
  have f := hB.fe r h.rm
  unfold valLe valLt
  rw [dv_set hB.len h.rm]
  have p0 := h.piv
  have n0 := h.neg
  have e1 : T Y (ins.set r c) Y.m Y.b * dv Y ins = T Y ins Y.m Y.b * T Y ins r (Y.col c) - T Y ins Y.m (Y.col c) * T Y ins r Y.b := by
    rw [Int.mul_comm, e, Int.mul_comm (T Y ins r (Y.col c))]
  rw [e1]
  have q1 : T Y ins Y.m (Y.col c) * T Y ins r Y.b ≤ 0 := Int.mul_nonpos_of_nonpos_of_nonneg (by omega) f
  refine ⟨by omega, fun hp => ?_⟩
  have q2 : T Y ins Y.m (Y.col c) * T Y ins r Y.b < 0 := Int.mul_neg_of_neg_of_pos n0 hp
  omega
theorem val_trans {a b d : List Nat} (ha : 0 < dv Y a) (hb : 0 < dv Y b) (hd : 0 < dv Y d) (h1 : valLe Y a b) (h2 : valLe Y b d) : valLe Y a d := by
  unfold valLe at *
  have k1 := Int.mul_le_mul_of_nonneg_right h1 (Int.le_of_lt hd)
  have k2 := Int.mul_le_mul_of_nonneg_right h2 (Int.le_of_lt ha)
  have k3 : T Y a Y.m Y.b * dv Y d * dv Y b ≤ T Y d Y.m Y.b * dv Y a * dv Y b := by
    have e1 : T Y a Y.m Y.b * dv Y d * dv Y b = T Y a Y.m Y.b * dv Y b * dv Y d := by grind
    have e2 : T Y b Y.m Y.b * dv Y a * dv Y d = T Y b Y.m Y.b * dv Y d * dv Y a := by grind
    have e3 : T Y d Y.m Y.b * dv Y b * dv Y a = T Y d Y.m Y.b * dv Y a * dv Y b := by grind
    omega
  exact Int.le_of_mul_le_mul_right k3 hb
theorem val_ltle {a b d : List Nat} (ha : 0 < dv Y a) (hb : 0 < dv Y b) (hd : 0 < dv Y d) (h1 : valLt Y a b) (h2 : valLe Y b d) : valLt Y a d := by
  unfold valLe valLt at *
  have k1 := Int.mul_lt_mul_of_pos_right h1 hd
  have k2 := Int.mul_le_mul_of_nonneg_right h2 (Int.le_of_lt ha)
  have k3 : T Y a Y.m Y.b * dv Y d * dv Y b < T Y d Y.m Y.b * dv Y a * dv Y b := by
    have e1 : T Y a Y.m Y.b * dv Y d * dv Y b = T Y a Y.m Y.b * dv Y b * dv Y d := by grind
    have e2 : T Y b Y.m Y.b * dv Y a * dv Y d = T Y b Y.m Y.b * dv Y d * dv Y a := by grind
    have e3 : T Y d Y.m Y.b * dv Y b * dv Y a = T Y d Y.m Y.b * dv Y a * dv Y b := by grind
    omega
  exact Int.lt_of_mul_lt_mul_right k3 (Int.le_of_lt hb)
end RB
namespace RB
variable {Y : Sys}
structure Cyc (Y : Sys) (N : Nat) (s : Nat → List Nat) (r c : Nat → Nat) : Prop where
  ok : SysOk Y
  b0 : Base Y (s 0)
  st : ∀ t, t < N → Step Y (s t) (r t) (c t)
  nx : ∀ t, t < N → s (t + 1) = (s t).set (r t) (c t)
  bk : s N = s 0
section
variable {N : Nat} {s : Nat → List Nat} {r c : Nat → Nat} (K : Cyc Y N s r c)
include K
theorem Cyc.base : ∀ t, t ≤ N → Base Y (s t)
  | 0, _ => K.b0
  | t + 1, h => by
    rw [K.nx t (by omega)]
    exact (Cyc.base t (by omega)).step K.ok (K.st t (by omega))
theorem Cyc.up {t1 : Nat} : ∀ d, t1 + d ≤ N → valLe Y (s t1) (s (t1 + d))
  | 0, _ => Int.le_refl _
  | d + 1, h => by
    have h1 := Cyc.up d (show t1 + d ≤ N by omega)
    have h2 := (val_up (K.base (t1 + d) (by omega)) K.ok (K.st (t1 + d) (by omega))).1
    rw [← K.nx (t1 + d) (by omega)] at h2
    exact val_trans (K.base t1 (by omega)).pos (K.base (t1 + d) (by omega)).pos (K.base (t1 + d + 1) (by omega)).pos h1 h2
theorem Cyc.nil {t : Nat} (ht : t < N) : T Y (s t) (r t) Y.b = 0 := by
  have hB := K.base t (by omega)
  have f := hB.fe (r t) (K.st t ht).rm
  rcases Int.lt_or_eq_of_le f with h | h
  · exfalso
    have h1 := (val_up hB K.ok (K.st t ht)).2 h
    rw [← K.nx t ht] at h1
    have h2 := K.up (t1 := t + 1) (N - (t + 1)) (by omega)
    have e : t + 1 + (N - (t + 1)) = N := by omega
    rw [e, K.bk] at h2
    have h3 := K.up (t1 := 0) t (by omega)
    rw [Nat.zero_add] at h3
    have p0 := (K.base 0 (by omega)).pos
    have p1 := (K.base (t + 1) (by omega)).pos
    have h4 := val_ltle hB.pos p1 p0 h1 h2
    have h5 := val_ltle hB.pos p0 hB.pos h4 h3
    exact Int.lt_irrefl _ h5
  · exact h.symm
theorem Cyc.back {t j : Nat} (ht : t < N) (hj : j ∈ s (t + 1)) : j ∈ s t ∨ j = c t := by
  rw [K.nx t ht] at hj
  exact List.mem_or_eq_of_mem_set hj
end
end RB
namespace RB
end RB
namespace RB
end RB
namespace RB
variable {Y : Sys} {ins : List Nat} {N : Nat}
inductive Chain (Y : Sys) (s0 : List Nat) : Nat → List Nat → Prop
  | nil : Chain Y s0 0 s0
  | next {t : Nat} {s : List Nat} {r c : Nat} : Chain Y s0 t s → Step Y s r c → Chain Y s0 (t + 1) (s.set r c)
theorem Chain.base {s0 s : List Nat} {t : Nat} (hY : SysOk Y) (h0 : Base Y s0) (h : Chain Y s0 t s) : Base Y s := by
  induction h with
  | nil => exact h0
  | next _ st ih => exact ih.step hY st
structure OutN (Y : Sys) (ins outs : List Nat) : Prop where
  len : outs.length = Y.n
  nd : outs.Nodup
  mem : ∀ j, j < Y.n + Y.m → (j ∈ outs ↔ j ∉ ins)
  lt : ∀ j ∈ outs, j < Y.n + Y.m
theorem OutN.start : OutN Y (List.range' Y.n Y.m) (List.range Y.n) := by
  refine ⟨List.length_range .., List.nodup_range .., fun j hj => ?_, fun j hj => ?_⟩
  · rw [List.mem_range, List.mem_range'_1]; omega
  · have := List.mem_range.mp hj; omega
theorem mem_set_iff {l : List Nat} {r c x : Nat} (nd : l.Nodup) (hr : r < l.length) : x ∈ l.set r c ↔ x = c ∨ (x ∈ l ∧ l[r]? ≠ some x) := by
  constructor
  · intro h
    obtain ⟨k, hk, e⟩ := List.mem_iff_getElem.mp h
    rw [List.length_set] at hk
    have e := List.getElem?_eq_some_iff.mpr ⟨by rw [List.length_set]; exact hk, e⟩
    by_cases q : r = k
    · subst q
      rw [List.getElem?_set_self hk] at e
      exact .inl (Option.some.inj e).symm
    · rw [List.getElem?_set_ne q] at e
      refine .inr ⟨List.mem_of_getElem? e, fun z => ?_⟩
      rcases Nat.lt_or_gt_of_ne q with w | w
      · exact nd_iff.mp nd r k w hk (z.trans e.symm)
      · exact nd_iff.mp nd k r w hr (e.trans z.symm)
  · rintro (rfl | ⟨h, hn⟩)
    · exact List.mem_of_getElem? (i := r) (List.getElem?_set_self hr)
    · obtain ⟨k, hk, e⟩ := List.mem_iff_getElem.mp h
      have e := List.getElem?_eq_some_iff.mpr ⟨hk, e⟩
      have q : r ≠ k := fun q => hn (by rw [q]; exact e)
      exact List.mem_of_getElem? (i := k) (by rw [List.getElem?_set_ne q]; exact e)
theorem nodup_set {l : List Nat} {r c : Nat} (nd : l.Nodup) (h : c ∉ l) : (l.set r c).Nodup := by
  rw [nd_iff]
  intro x y hxy hy
  rw [List.length_set] at hy
  by_cases e1 : x = r
  · subst e1
    rw [List.getElem?_set_self (by omega), List.getElem?_set_ne (by omega)]
    exact fun e => h (List.mem_of_getElem? e.symm)
  · by_cases e2 : y = r
    · subst e2
      rw [List.getElem?_set_self (by omega), List.getElem?_set_ne (by omega)]
      exact fun e => h (List.mem_of_getElem? e)
    · rw [List.getElem?_set_ne (by omega), List.getElem?_set_ne (by omega)]
      exact nd_iff.mp nd x y hxy hy
theorem OutN.step {outs : List Nat} {r c l k : Nat} (hB : Base Y ins) (h : OutN Y ins outs) (hr : ins[r]? = some l) (hc : outs[k]? = some c) : OutN Y (ins.set r c) (outs.set k l) := by
  have rl := (List.getElem?_eq_some_iff.mp hr).1
  have kl := (List.getElem?_eq_some_iff.mp hc).1
  have li := List.mem_of_getElem? hr
  have co := List.mem_of_getElem? hc
  have lt := hB.lt l li
  have lo : l ∉ outs := fun q => (h.mem l lt).mp q li
  refine ⟨by rw [List.length_set]; exact h.len, nodup_set h.nd lo, fun j hj => ?_, fun j hj => ?_⟩
  · rw [mem_set_iff h.nd kl, mem_set_iff hB.nd rl, hr, hc]
    have := h.mem j hj
    have cm := h.mem c (h.lt c co)
    constructor
    · rintro (rfl | ⟨h1, h2⟩)
      · rintro (q | ⟨_, q⟩)
        · exact lo (q ▸ co)
        · exact q rfl
      · rintro (q | ⟨q, _⟩)
        · exact h2 (by rw [q])
        · exact this.mp h1 q
    · intro q
      by_cases e : j = l
      · exact .inl e
      · refine .inr ⟨this.mpr fun z => q (.inr ⟨z, fun w => e (Option.some.inj w).symm⟩), fun w => q (.inl (Option.some.inj w).symm)⟩
  · rcases List.mem_or_eq_of_mem_set hj with q | q
    · exact h.lt j q
    · rw [q]; exact lt
theorem cross {a1 b1 a2 b2 a3 b3 : Int} (h1 : 0 < a1) (h2 : 0 < a2) (h3 : 0 < a3) (p : b1 * a2 ≤ b2 * a1) (q : b2 * a3 ≤ b3 * a2) : b1 * a3 ≤ b3 * a1 := by
  have k1 := Int.mul_le_mul_of_nonneg_right p (Int.le_of_lt h3)
  have k2 := Int.mul_le_mul_of_nonneg_right q (Int.le_of_lt h1)
  have k3 : b1 * a3 * a2 ≤ b3 * a1 * a2 := by
    have e1 : b1 * a3 * a2 = b1 * a2 * a3 := by grind
    have e2 : b2 * a1 * a3 = b2 * a3 * a1 := by grind
    have e3 : b3 * a2 * a1 = b3 * a1 * a2 := by grind
    omega
  exact Int.le_of_mul_le_mul_right k3 h2
theorem cross_lt {a1 b1 a2 b2 a3 b3 : Int} (h1 : 0 < a1) (h2 : 0 < a2) (h3 : 0 < a3) (p : b1 * a2 < b2 * a1) (q : b2 * a3 ≤ b3 * a2) : b1 * a3 < b3 * a1 := by
  have k1 := Int.mul_lt_mul_of_pos_right p h3
  have k2 := Int.mul_le_mul_of_nonneg_right q (Int.le_of_lt h1)
  have k3 : b1 * a3 * a2 < b3 * a1 * a2 := by
    have e1 : b1 * a3 * a2 = b1 * a2 * a3 := by grind
    have e2 : b2 * a1 * a3 = b2 * a3 * a1 := by grind
    have e3 : b3 * a2 * a1 = b3 * a1 * a2 := by grind
    omega
  exact Int.lt_of_mul_lt_mul_right k3 (Int.le_of_lt h2)
def Sooner (Y : Sys) (ins : List Nat) (v : Col) (r i : Nat) : Prop := T Y ins r Y.b * T Y ins i v < T Y ins i Y.b * T Y ins r v ∨ (T Y ins r Y.b * T Y ins i v = T Y ins i Y.b * T Y ins r v ∧ ins.getD r 0 ≤ ins.getD i 0)
theorem Sooner.trans {v : Col} {r i k : Nat} (h1 : 0 < T Y ins r v) (h2 : 0 < T Y ins i v) (h3 : 0 < T Y ins k v) (p : Sooner Y ins v r i) (q : Sooner Y ins v i k) : Sooner Y ins v r k := by
  unfold Sooner at *
  rcases p with p | ⟨p, p'⟩
  · refine .inl (cross_lt h1 h2 h3 p ?_)
    rcases q with q | ⟨q, _⟩ <;> omega
  · rcases q with q | ⟨q, q'⟩
    · left
      have k1 : T Y ins i Y.b * T Y ins r v ≤ T Y ins r Y.b * T Y ins i v := by omega
      refine Int.not_le.mp fun z => ?_
      have := cross h3 h1 h2 z (Int.le_of_eq p)
      omega
    · right
      refine ⟨Int.le_antisymm (cross h1 h2 h3 (Int.le_of_eq p) (Int.le_of_eq q)) (cross h3 h2 h1 (Int.le_of_eq q.symm) (Int.le_of_eq p.symm)), by omega⟩
end RB
namespace RB
end RB
namespace RB
def cQ : Nat → (Nat → Rat) → Rat
  | 0, _ => 0
  | k + 1, g => cQ k g + g k
def comQ (qs : List Rat) : Nat := qs.foldl (fun a q => Nat.lcm a q.den) 1
def whole (s : Nat) (qs : List Rat) : List Int := qs.map fun q => q.num * ((s : Int) / (q.den : Int))
variable {Y : Sys} {ins : List Nat} {c : Nat}
end RB
set_option exponentiation.threshold 10000
namespace RB
def lineQ (rows : List (List Rat)) (bs : List Rat) (i : Nat) : List Rat := rows.getD i [] ++ [bs.getD i 0]
def wline (ws : List Rat) : List Rat := ws.map (fun w => 0 - w) ++ [0]
def scQ (rows : List (List Rat)) (bs : List Rat) (i : Nat) : Nat := comQ (lineQ rows bs i)
def lineI (rows : List (List Rat)) (bs : List Rat) (i : Nat) : List Int := whole (scQ rows bs i) (lineQ rows bs i)
structure Pr (e : Nat) (rows : List (List Rat)) (bs ws : List Rat) : Prop where
  rl : ∀ r ∈ rows, r.length = ws.length
  bl : bs.length = rows.length
  b0 : ∀ b ∈ bs, 0 ≤ b
  n1 : ws.length ≤ 1000
  m1 : rows.length ≤ 30
  e4 : e ≤ 400
  lim : ∃ y : Nat → Rat, (∀ i, 0 ≤ y i) ∧ ∀ j, j < ws.length → ws.getD j 0 ≤ cQ rows.length fun i => y i * (rows.getD i []).getD j 0
  sz : (rows.length + 1) * (e + 5) ≤ 640
  szr : ∀ i, i < rows.length → scQ rows bs i < 2 ^ e ∧ ∀ z ∈ lineI rows bs i, z.natAbs < 2 ^ e
  szw : comQ ws < 2 ^ e ∧ ∀ z ∈ whole (comQ ws) (wline ws), z.natAbs < 2 ^ e
section
variable {e : Nat} {rows : List (List Rat)} {bs ws : List Rat} {ins : List Nat}
theorem getD_mem {r : List (List Rat)} {i : Nat} (hi : i < r.length) : r.getD i [] ∈ r := by
  rw [List.getD_eq_getElem?_getD, List.getElem?_eq_getElem hi]; exact List.getElem_mem hi
theorem Pr.row (h : Pr e rows bs ws) {i : Nat} (hi : i < rows.length) : (rows.getD i []).length = ws.length := h.rl _ (getD_mem hi)
end
end RB
set_option exponentiation.threshold 10000
namespace RB
end RB
set_option exponentiation.threshold 10000
namespace RB
end RB
set_option maxHeartbeats 4000000
namespace RB
open PySem PySem.Spec PyProof.Rows L2
section
variable {X : Cx} {Γ : Gf} {Wx : WX} {e a b o : Expr} {es : List Expr} {ea eb eo : Ev} {eas : Evs}
def MsOk (Γ : Gf) (r : V → List V → Hp → VK → Prop) (F : Str → List W → Sto → Res W) : Prop := ∀ (Wx : WX) μ (σ : L2.St) H st s ws xs (Q : VK), Sim Γ μ st H → Reps Γ.K μ H ws xs → Post Γ Wx (Rep Γ.K) μ σ H Q (F s ws st) → r (.str s) xs H Q
def eMs (F : Str → List W → Sto → Res W) (o : Ev) (a : Evs) : Ev := fun l st => (o l st).bind fun x st1 => match x with | .str s => (a l st1).bind fun ws st2 => F s ws st2 | _ => .err
def eMs0 (F : Str → List W → Sto → Res W) (o : Ev) : Ev := fun l st => (o l st).bind fun x st1 => match x with | .str s => F s [] st1 | _ => .err
theorem qe_ms {id : String} {name : Str} {r : V → List V → Hp → VK → Prop} {F : Str → List W → Sto → Res W} {apos cpos : Pos} (slot : Slot "str" name id) (hty : typeOf (.builtin id) = pure (.type "method_descriptor")) (hm : MtR X id r) (hF : MsOk Γ r F) (ho : PE X o (tE Γ Wx eo)) (ha : PA X (e :: es) (tA Γ Wx eas))
    (hbase : attributeBase o name X.env (eval o X.env) = eval o X.env := by rfl)
    (hfew : ((backTo cpos (starEach (e :: es) X.env)).all (fun x => !x.1) && (backToKw cpos (keywordEach [] X.env)).all (fun x => x.1.isSome) && decide ((e :: es).length + ([] : List Keyword).length + (if ([] : List Keyword).isEmpty then 0 else 1) < 30)) = true := by rfl)
    (hline : (apos.endLine == cpos.line) = true := by rfl) (hs : starEach (e :: es) X.env = (false, eval e X.env) :: starEach es X.env := by rfl) (hplain : (backTo cpos (starEach es X.env)).any (·.1) = false := by rfl) : PE X (.Call (.Attribute o name apos) (e :: es) [] cpos) (tE Γ Wx (eMs F eo eas)) :=
  PE_imp (pe_bm PySem.F.plainAttrs_str slot hty hm ho ha hbase hfew hline hs hplain) fun σ H Q ⟨μ, l, st, hs, hl, h⟩ => tG_bind hs hl h _ fun w st1 μ1 H1 v e1 s1 r1 h1 => by
    cases w with
    | str z =>
      cases r1
      exact ⟨rfl, tG_bind s1 (hl.mono e1) h1 _ fun ws st2 μ2 H2 xs e2 s2 r2 h2 => hF Wx μ2 σ H2 st2 z ws xs Q s2 r2 h2⟩
    | _ => exact h1.elim
theorem qe_ms0 {id : String} {name : Str} {r : V → List V → Hp → VK → Prop} {F : Str → List W → Sto → Res W} {apos cpos : Pos} (slot : Slot "str" name id) (hty : typeOf (.builtin id) = pure (.type "method_descriptor")) (hm : MtR X id r) (hF : MsOk Γ r F) (ho : PE X o (tE Γ Wx eo))
    (hbase : attributeBase o name X.env (eval o X.env) = eval o X.env := by rfl) (hline : (apos.endLine == cpos.line) = true := by rfl) : PE X (.Call (.Attribute o name apos) [] [] cpos) (tE Γ Wx (eMs0 F eo)) :=
  PE_imp (pe_bm0 PySem.F.plainAttrs_str slot hty hm ho hbase hline) fun σ H Q ⟨μ, l, st, hs, hl, h⟩ => tG_bind hs hl h _ fun w st1 μ1 H1 v e1 s1 r1 h1 => by
    cases w with
    | str z =>
      cases r1
      exact ⟨rfl, hF Wx μ1 σ H1 st1 z [] [] Q s1 .nil h1⟩
    | _ => exact h1.elim
theorem reps_strs {K : PySem.W.Frag} {μ : List Addr} {H : Hp} : ∀ ys : List Str, Reps K μ H (ys.map .str) (ys.map .str)
  | [] => .nil
  | y :: ys => .cons (.str y) (reps_strs ys)
theorem lows_strs (n : Nat) : ∀ ys : List Str, W.lows n (ys.map .str) = true
  | [] => rfl
  | y :: ys => by show (true && W.lows n (ys.map .str)) = true; rw [lows_strs n ys]; rfl
def fStartswith (s : Str) (ws : List W) (st : Sto) : Res W := match ws with | [.str b] => .ok (.bl (Txt.startswith s b)) st | _ => .err
theorem mos_startswith : MsOk Γ (fun x xs H Q => ∃ a b, x = .str a ∧ xs = [.str b] ∧ Q (.bl (Txt.startswith a b)) H) fStartswith := fun Wx μ σ H st s ws xs Q hs hr h => by
  unfold fStartswith at h
  split at h
  · rename_i b
    cases hr with
    | cons r t =>
      cases r; cases t
      exact ⟨s, b, rfl, rfl, h.here hs (.bl _)⟩
  · exact h.elim
def fIs (g : Str → Bool) (s : Str) (ws : List W) (st : Sto) : Res W := match ws with | [] => .ok (.bl (g s)) st | _ => .err
theorem mos_is {g : Str → Bool} : MsOk Γ (fun x xs H Q => ∃ a, x = .str a ∧ xs = [] ∧ True ∧ Q (.bl (g a)) H) (fIs g) := fun Wx μ σ H st s ws xs Q hs hr h => by
  unfold fIs at h
  split at h
  · cases hr
    exact ⟨s, rfl, rfl, trivial, h.here hs (.bl _)⟩
  · exact h.elim
def fPartition (s : Str) (ws : List W) (st : Sto) : Res W := match ws with
  | [.str b] => if (b.length == 0) = false ∧ s.length ≤ 1000000 then .ok (.tup [.str (Txt.partition s b).1, .str (Txt.partition s b).2.1, .str (Txt.partition s b).2.2]) st else .err
  | _ => .err
theorem mos_partition : MsOk Γ (fun x xs H Q => ∃ a b, x = .str a ∧ xs = [.str b] ∧ (b.length == 0) = false ∧ a.length ≤ sizeLine ∧
    ∀ p, H p = none → Q (.ref p) (upd H p (.tup [.str (Txt.partition a b).1, .str (Txt.partition a b).2.1, .str (Txt.partition a b).2.2]))) fPartition := fun Wx μ σ H st s ws xs Q hs hr h => by
  unfold fPartition at h
  split at h
  · rename_i b
    split at h
    · rename_i hc
      cases hr with
      | cons r t =>
        cases r; cases t
        refine ⟨s, b, rfl, rfl, hc.1, le_line hc.2, fun p hp => ?_⟩
        have E : Ext Γ.K μ μ H (upd H p (.tup [.str (Txt.partition s b).1, .str (Txt.partition s b).2.1, .str (Txt.partition s b).2.2])) := ext_upd (.inl hp)
        exact h _ _ _ E (hs.other hp) (.tup (.inl (.inl upd_same)) (.cons (.str _) (.cons (.str _) (.cons (.str _) .nil))))
    · exact h.elim
  · exact h.elim
def fSplit (s : Str) (ws : List W) (st : Sto) : Res W := match ws with
  | [.str b] => if (b.length == 0) = false ∧ s.length + 2 ≤ 1000000 then .ok (.ref st.c.length) (st.push (.lst ((Txt.split s b).map .str))) else .err
  | _ => .err
theorem mos_split : MsOk Γ (fun x xs H Q => ∃ a b, x = .str a ∧ xs = [.str b] ∧ (b.length == 0) = false ∧ a.length + 2 ≤ sizeLine ∧ rNewStrs (Txt.split a b) H Q) fSplit := fun Wx μ σ H st s ws xs Q hs hr h => by
  unfold fSplit at h
  split at h
  · rename_i b
    split at h
    · rename_i hc
      cases hr with
      | cons r t =>
        cases r; cases t
        refine ⟨s, b, rfl, rfl, hc.1, le_line hc.2, fun p hp => ?_⟩
        have E : Ext Γ.K μ (μ ++ [p]) H (upd H p (.lst ((Txt.split s b).map V.str))) := ext_new hp
        exact h _ _ _ E (hs.new hp ⟨_, upd_same, reps_strs _⟩ (lows_strs _ _)) (.ref (by rw [← hs.len]; simp))
    · exact h.elim
  · exact h.elim
def strsOf : List W → Option (List Str)
  | [] => some []
  | .str s :: r => (strsOf r).map (s :: ·)
  | _ => none
theorem strsOf_eq : ∀ {ws : List W} {ys : List Str}, strsOf ws = some ys → ws = ys.map .str
  | [], ys, h => by cases h; rfl
  | .str s :: r, ys, h => by
    have h : (strsOf r).map (s :: ·) = some ys := h
    cases e : strsOf r with
    | none => rw [e] at h; cases h
    | some zs => rw [e] at h; cases h; rw [strsOf_eq e]; rfl
  | .non :: _, _, h => by cases h
  | .bl _ :: _, _, h => by cases h
  | .int _ :: _, _, h => by cases h
  | .tup _ :: _, _, h => by cases h
  | .ref _ :: _, _, h => by cases h
theorem reps_strs_eq {K : PySem.W.Frag} {μ : List Addr} {H : Hp} : ∀ {ys : List Str} {xs : List V}, Reps K μ H (ys.map .str) xs → xs = ys.map .str
  | [], xs, h => by cases h; rfl
  | y :: ys, xs, h => by
    cases h with
    | cons r t => cases r; rw [reps_strs_eq t]; rfl
def fJoin (s : Str) (ws : List W) (st : Sto) : Res W := match ws with
  | [x] => (match (seqOf st x).bind strsOf with | some ys => if (ys.map (·.length)).sum + ys.length * s.length ≤ 16777216 then .ok (.str (Txt.join s ys)) st else .err | none => .err)
  | _ => .err
theorem mos_join (hK : X.K = Γ.K) : MsOk Γ (fun x xs H Q => ∃ a p, ∃ ys : List Str, x = .str a ∧ xs = [.ref p] ∧ (SqL X.K H p (ys.map V.str) ∨ SqT X.K H p (ys.map V.str)) ∧
    (ys.map (·.length)).sum + ys.length * a.length ≤ 16777216 ∧ Q (.str (Txt.join a ys)) H) fJoin := fun Wx μ σ H st s ws xs Q hs hr h => by
  rw [hK]
  unfold fJoin at h
  split at h
  · rename_i x
    split at h
    · rename_i ys e
      split at h
      · rename_i hc
        cases hr with
        | cons r t =>
          cases t
          cases e1 : seqOf st x with
          | none => rw [e1] at e; cases e
          | some us =>
            rw [e1] at e
            have e2 : strsOf us = some ys := e
            obtain ⟨p, zs, rfl, h1, h2⟩ := seqOf_rep hs e1 r
            rw [strsOf_eq e2] at h2
            rw [reps_strs_eq h2] at h1
            exact ⟨s, p, ys, rfl, rfl, h1, hc, h.here hs (.str _)⟩
      · exact h.elim
    · exact h.elim
  · exact h.elim
def fIntS (ws : List W) (st : Sto) : Res W := match ws with | [.str a] => (match PySem.intText? a with | some n => if a.length ≤ 640 then .ok (.int n) st else .err | none => .err) | _ => .err
theorem ok_intS : CallOk Γ (fun xs H Q => ∃ a n, xs = [.str a] ∧ PySem.intText? a = some n ∧ a.length ≤ 640 ∧ Q (.int n) H) fIntS := fun Wx μ σ H st ws xs Q hs hr h => by
  unfold fIntS at h
  split at h
  · split at h
    · rename_i n en
      split at h
      · rename_i hc
        cases hr with
        | cons r t => cases r; cases t; exact ⟨_, n, rfl, en, hc, h.here hs (.int _)⟩
      · exact h.elim
    · exact h.elim
  · exact h.elim
theorem call_intU {X : Cx} : CallR X (.type "int") (fun xs H Q => ((∃ i, xs = [.int i] ∧ Q (.int i) H) ∨ ∃ k, xs = [.bl k] ∧ Q (.int (if k then 1 else 0)) H) ∨ ∃ a n, xs = [.str a] ∧ PySem.intText? a = some n ∧ a.length ≤ 640 ∧ Q (.int n) H) := by
  intro pins s σ H xs us Q I rs h
  rcases h with h | h
  · exact call_int1 pins s σ H xs us Q I rs h
  · exact call_int_str pins s σ H xs us Q I rs h
def fIntU (ws : List W) (st : Sto) : Res W := match ws with
  | [.str a] => (match PySem.intText? a with | some n => if a.length ≤ 640 then .ok (.int n) st else .err | none => .err)
  | _ => fInt ws st
theorem ok_intU : CallOk Γ (fun xs H Q => ((∃ i, xs = [.int i] ∧ Q (.int i) H) ∨ ∃ k, xs = [.bl k] ∧ Q (.int (if k then 1 else 0)) H) ∨ ∃ a n, xs = [.str a] ∧ PySem.intText? a = some n ∧ a.length ≤ 640 ∧ Q (.int n) H) fIntU := fun Wx μ σ H st ws xs Q hs hr h => by
  unfold fIntU at h
  split at h
  · exact .inr (ok_intS Wx μ σ H st _ xs Q hs hr h)
  · exact .inl (ok_fint Wx μ σ H st ws xs Q hs hr h)
end
end RB
namespace RB
open PySem PySem.Spec PyProof.Rows L2
section
variable {X : Cx} {Γ : Gf} {Wx : WX} {e a b o : Expr} {es : List Expr} {ea eb eo : Ev} {eas : Evs}
def wIxT (x y : W) (st : Sto) : Res W := match x, y with
  | .str z, .int i => (match atI (z.cps.toList) i with | some c => if z.length ≤ 1000000 then .ok (.str ⟨#[c]⟩) st else .err | none => .err)
  | _, _ => .err
def wSlT (x : W) (lo hi : Option Int) (st : Sto) : Res W := match x with | .str z => if z.length ≤ 1000000 then .ok (.str (cutS z lo hi)) st else .err | _ => .err
def eSlT (a : Ev) (lo hi : Po) : Ev := fun l st => (a l st).bind fun x st1 => (lo l st1).bind fun i st2 => (hi l st2).bind fun j st3 => wSlT x i j st3
theorem qe_slT {lo hi : Option Expr} {pl ph : Po} {pos p2 : Pos} (ha : PE X a (tE Γ Wx ea)) (hl : PO X lo (tP Γ Wx pl)) (hh : PO X hi (tP Γ Wx ph)) : PE X (.Subscript a (.Slice lo hi none p2) pos) (tE Γ Wx (eSlT ea pl ph)) :=
  PE_imp (pe_slice sl_str ha hl hh) fun σ H Q ⟨μ, l, st, hs, hl, h⟩ => tG_bind hs hl h _ fun w st1 μ1 H1 v e1 s1 r1 h1 => tG_bind s1 (hl.mono e1) h1 _ fun i st2 μ2 H2 i' e2 s2 r2 h2 => tG_bind s2 (hl.mono (e1.trans e2)) h2 _ fun j st3 μ3 H3 j' e3 s3 r3 h3 => by
    subst r2 r3
    cases w with
    | str z =>
      cases r1
      have h3 : Post Γ Wx (Rep Γ.K) μ3 σ H3 Q (if z.length ≤ 1000000 then .ok (.str (cutS z i j)) st3 else .err) := h3
      split at h3
      · rename_i hc
        exact ⟨z, rfl, le_line hc, h3.here s3 (.str _)⟩
      · exact h3.elim
    | _ => exact h3.elim
theorem ok_ixT : OpOk Γ rIxS wIxT := fun Wx μ σ H st wx wy x y Q hs rx ry h => by
  unfold wIxT at h
  split at h
  · rename_i z i
    split at h
    · rename_i c e
      split at h
      · rename_i hc
        cases rx; cases ry
        exact ⟨z, i, c, rfl, rfl, le_line hc, e, h.here hs (.str _)⟩
      · exact h.elim
    · exact h.elim
  · exact h.elim
theorem qe_ixT {pos : Pos} (ha : PE X a (tE Γ Wx ea)) (hb : PE X b (tE Γ Wx eb)) (hs : PlainIx b := by exact fun _ _ => rfl) : PE X (.Subscript a b pos) (tE Γ Wx (eBin wIxT ea eb)) :=
  PE_imp (pe_ix ix_str ha hb hs) fun σ H Q h => tOp_run ok_ixT σ H Q h
end
end RB
namespace RB
open PySem PySem.Spec PyProof.Rows L2 PySem.Builtin PySem.Builtin.Str
end RB
namespace RB
open PySem PySem.Spec PyProof.Rows L2
section
variable {X : Cx} {Γ : Gf} {Wx : WX} {e a b o i : Expr} {es : List Expr} {ea eb eo ei : Ev} {eas : Evs}
def eDNew : Ev := fun _ st => .ok (.ref st.c.length) (st.push (.dct []))
theorem qe_dnew {pos : Pos} : PE X (.Dict [] [] pos) (tE Γ Wx eDNew) :=
  PE_imp pe_dnewK fun σ H Q ⟨μ, l, st, hs, hl, h⟩ => fun p hp => by
    have E : Ext Γ.K μ (μ ++ [p]) H (upd H p (.dK [])) := ext_new hp
    have h : Post Γ Wx (Rep Γ.K) μ σ H Q (.ok (.ref st.c.length) (st.push (.dct []))) := h
    exact h _ _ _ E (hs.new hp ⟨[], upd_same, .nil⟩ rfl) (.ref (by rw [← hs.len]; simp))
theorem un1 {A : Around} {k : Nat} (h : Room k A) : A.units + 1 < cLine := by have := h.un; omega
def dAt (fs : List (Str × W)) (s : Str) : Option W := (fs.find? fun p => decide (p.1 = s)).map (·.2)
def dPut (fs : List (Str × W)) (s : Str) (w : W) : List (Str × W) := if (fs.any fun p => decide (p.1 = s)) = true then fs.map (fun p => if p.1 = s then (p.1, w) else p) else fs ++ [(s, w)]
def gPut (gs : List (Str × V)) (s : Str) (v : V) : List (Str × V) := if (gs.any fun p => decide (p.1 = s)) = true then gs.map (fun p => if p.1 = s then (p.1, v) else p) else gs ++ [(s, v)]
theorem inr_eq (x s : Str) : ((Sum.inr x : Key) = Sum.inr s) = (x = s) := by
  rw [Sum.inr.injEq]
theorem dAt_rep {K : PySem.W.Frag} {μ : List Addr} {H : Hp} (s : Str) : ∀ {fs : List (Str × W)} {gs : List (Str × V)}, FRep K μ H fs gs →
    (dAt fs s = none ∧ valV (dKeys gs) (.inr s) = none) ∨ ∃ w v, dAt fs s = some w ∧ valV (dKeys gs) (.inr s) = some v ∧ Rep K μ H w v
  | _, _, .nil => .inl ⟨rfl, rfl⟩
  | p :: fs, q :: gs, .cons h t => by
    obtain ⟨h1, h2⟩ := h
    by_cases e : p.1 = s
    · refine .inr ⟨p.2, q.2, ?_, ?_, h2⟩
      · unfold dAt; rw [List.find?_cons, decide_eq_true e]; rfl
      · exact valV_pos (p := ((Sum.inr q.1 : Key), q.2)) (r := dKeys gs) (show (Sum.inr q.1 : Key) = Sum.inr s by rw [← h1, e])
    · have e1 : dAt (p :: fs) s = dAt fs s := by
        unfold dAt; rw [List.find?_cons, decide_eq_false e]
      have e2 : valV (dKeys (q :: gs)) (.inr s) = valV (dKeys gs) (.inr s) := valV_neg (p := ((Sum.inr q.1 : Key), q.2)) (r := dKeys gs) (by
        show ¬ ((Sum.inr q.1 : Key) = Sum.inr s)
        rw [inr_eq, ← h1]; exact e)
      rw [e1, e2]
      exact dAt_rep s t
theorem any_rep {K : PySem.W.Frag} {μ : List Addr} {H : Hp} (s : Str) : ∀ {fs : List (Str × W)} {gs : List (Str × V)}, FRep K μ H fs gs → (fs.any fun p => decide (p.1 = s)) = (gs.any fun p => decide (p.1 = s))
  | _, _, .nil => rfl
  | p :: fs, q :: gs, .cons h t => by
    rw [List.any_cons, List.any_cons, h.1, any_rep s t]
theorem map_rep {K : PySem.W.Frag} {μ : List Addr} {H : Hp} {w : W} {v : V} (s : Str) (r : Rep K μ H w v) : ∀ {fs : List (Str × W)} {gs : List (Str × V)}, FRep K μ H fs gs → FRep K μ H (fs.map fun p => if p.1 = s then (p.1, w) else p) (gs.map fun p => if p.1 = s then (p.1, v) else p)
  | _, _, .nil => .nil
  | p :: fs, q :: gs, .cons h t => by
    rw [List.map_cons, List.map_cons]
    refine .cons ?_ (map_rep s r t)
    by_cases e : p.1 = s
    · rw [if_pos e, if_pos (by rw [← h.1]; exact e)]; exact ⟨h.1, r⟩
    · rw [if_neg e, if_neg (by rw [← h.1]; exact e)]; exact h
theorem snoc_rep {K : PySem.W.Frag} {μ : List Addr} {H : Hp} {w : W} {v : V} (s : Str) (r : Rep K μ H w v) : ∀ {fs : List (Str × W)} {gs : List (Str × V)}, FRep K μ H fs gs → FRep K μ H (fs ++ [(s, w)]) (gs ++ [(s, v)])
  | _, _, .nil => .cons ⟨rfl, r⟩ .nil
  | p :: fs, q :: gs, .cons h t => .cons h (snoc_rep s r t)
theorem put_rep {K : PySem.W.Frag} {μ : List Addr} {H : Hp} {w : W} {v : V} (s : Str) (r : Rep K μ H w v) {fs : List (Str × W)} {gs : List (Str × V)} (h : FRep K μ H fs gs) : FRep K μ H (dPut fs s w) (gPut gs s v) := by
  unfold dPut gPut
  rw [any_rep s h]
  split
  · exact map_rep s r h
  · exact snoc_rep s r h
theorem put_keys (s : Str) (v : V) (gs : List (Str × V)) : putK (dKeys gs) (.inr s) v = dKeys (gPut gs s v) := by
  have e1 : ((dKeys gs).any fun kv => decide (kv.1 = .inr s)) = (gs.any fun p => decide (p.1 = s)) := by
    unfold dKeys
    rw [List.any_map]
    congr 1
    funext p
    show decide ((Sum.inr p.1 : Key) = Sum.inr s) = _
    simp only [inr_eq]
  unfold putK gPut
  rw [e1]
  split
  · unfold dKeys
    rw [List.map_map, List.map_map]
    refine List.map_congr_left fun p _ => ?_
    simp only [Function.comp]
    by_cases e : p.1 = s
    · rw [if_pos (by rw [inr_eq]; exact e), if_pos e]
    · rw [if_neg (by rw [inr_eq]; exact e), if_neg e]
  · unfold dKeys
    rw [List.map_append]; rfl
theorem low_dput {n : Nat} {s : Str} {w : W} (hw : W.low n w = true) : ∀ {fs : List (Str × W)}, W.lows n (fs.map (·.2)) = true → W.lows n ((dPut fs s w).map (·.2)) = true := by
  have snoc : ∀ {fs : List (Str × W)}, W.lows n (fs.map (·.2)) = true → W.lows n ((fs ++ [(s, w)]).map (·.2)) = true := by
    intro fs
    induction fs with
    | nil => intro _; show (W.low n w && true) = true; rw [hw]; rfl
    | cons p r ih =>
      intro h
      have h : (W.low n p.2 && W.lows n (r.map (·.2))) = true := h
      rw [Bool.and_eq_true] at h
      show (W.low n p.2 && W.lows n ((r ++ [(s, w)]).map (·.2))) = true
      rw [h.1, ih h.2]; rfl
  have mp : ∀ {fs : List (Str × W)}, W.lows n (fs.map (·.2)) = true → W.lows n ((fs.map fun p => if p.1 = s then (p.1, w) else p).map (·.2)) = true := by
    intro fs
    induction fs with
    | nil => intro _; rfl
    | cons p r ih =>
      intro h
      have h : (W.low n p.2 && W.lows n (r.map (·.2))) = true := h
      rw [Bool.and_eq_true] at h
      show (W.low n (if p.1 = s then (p.1, w) else p).2 && W.lows n ((r.map fun p => if p.1 = s then (p.1, w) else p).map (·.2))) = true
      rw [ih h.2, Bool.and_true]
      split
      · exact hw
      · exact h.1
  intro fs h
  unfold dPut
  split
  · exact mp h
  · exact snoc h
def eDIn (neg : Bool) (k d : Ev) : Ev := fun l st => (k l st).bind fun y st1 => (d l st1).bind fun x st2 => match x, y with
  | .ref n, .str s => match st2.c[n]? with
    | some (.dct fs) => .ok (.bl (xor neg (dAt fs s).isSome)) st2
    | _ => .err
  | _, _ => .err
theorem din_run {neg : Bool} (σ : L2.St) (H : Hp) (Q : VK) (h : tE Γ Wx (eDIn neg ei eo) σ H Q) : tE Γ Wx ei σ H fun y H1 => tE Γ Wx eo σ H1 fun x H2 => ∃ a o, x = .ref a ∧ DGet H2 a y o ∧ Q (.bl (xor neg o.isSome)) H2 := by
  obtain ⟨μ, l, st, hs, hl, h⟩ := h
  exact tG_bind hs hl h _ fun y st1 μ1 H1 yv e1 s1 r1 h1 => tG_bind s1 (hl.mono e1) h1 _ fun x st2 μ2 H2 xv e2 s2 r2 h2 => by
    split at h2
    · rename_i n s
      split at h2
      · rename_i fs ec
        cases r1
        cases r2 with
        | ref hm =>
          obtain ⟨gs, q1, q2⟩ := s2.cell n _ _ ec hm
          refine ⟨_, valV (dKeys gs) (.inr s), rfl, .inl ⟨dKeys gs, .inr s, .inl q1, rfl, rfl⟩, ?_⟩
          have e : (valV (dKeys gs) (.inr s)).isSome = (dAt fs s).isSome := by
            rcases dAt_rep s q2 with ⟨z1, z2⟩ | ⟨w', v, z1, z2, z3⟩
            · rw [z1, z2]; rfl
            · rw [z1, z2]; rfl
          rw [e]
          exact h2.here s2 (.bl _)
      · exact h2.elim
    · exact h2.elim
theorem Sim.writeD {μ : List Addr} {st : Sto} {H : Hp} {n : Nat} {fs fs' : List (Str × W)} {p : Addr} {gs gs' : List (Str × V)} {b : Bool} (s : Sim Γ μ st H) (hn : st.c[n]? = some (.dct fs)) (hm : μ[n]? = some p) (hp : H p = some (.dK (dKeys gs)))
    (hc : FRep Γ.K μ (upd H p (.dK (dKeys gs'))) fs' gs') (hb : b = true → ∀ m, n ≤ m → (Cell.dct fs).low m = true → (Cell.dct fs').low m = true) (hE : Ext Γ.K μ μ H (upd H p (.dK (dKeys gs')))) : Sim Γ μ (st.put n (.dct fs') b) (upd H p (.dK (dKeys gs'))) := by
  have hlt := (List.getElem?_eq_some_iff.mp hn).1
  have own : ∀ (i : Nat) d, (st.c.set n (.dct fs'))[i]? = some d → d.own = true → ∃ d', st.c[i]? = some d' ∧ d'.own = true := fun i d h1 h2 => by
    by_cases z : n = i
    · subst z; exact ⟨_, hn, rfl⟩
    · rw [List.getElem?_set_ne z] at h1; exact ⟨d, h1, h2⟩
  refine ⟨by simp [s.len, Sto.put], fun i j a d e h1 h2 o1 o2 m1 m2 => ?_, fun i d a h1 m1 => ?_, fun i d h1 hk => ?_, by have := s.bl; simp [Sto.put]; omega, s.ql, s.qg⟩
  · obtain ⟨d', x1, x2⟩ := own i d h1 o1
    obtain ⟨e', y1, y2⟩ := own j e h2 o2
    exact s.inj i j a d' e' x1 y1 x2 y2 m1 m2
  · by_cases z : n = i
    · subst z
      have h1 : (st.c.set n (.dct fs'))[n]? = some d := h1
      rw [List.getElem?_set_self hlt] at h1
      cases h1
      rw [hm] at m1; cases m1
      exact ⟨gs', upd_same, hc⟩
    · have h1 : (st.c.set n (.dct fs'))[i]? = some d := h1
      rw [List.getElem?_set_ne z] at h1
      have q := s.cell i d a h1 m1
      have keep : ∀ {u : HO}, H a = some u → (d.own = true ∨ ∀ kvs, u ≠ .dK kvs) → upd H p (.dK (dKeys gs')) a = some u := fun {u} q nl => by
        rw [upd_ne]
        · exact q
        · intro zz
          subst zz
          rcases nl with nl | nl
          · exact z (s.inj n i _ _ d hn h1 rfl nl hm m1)
          · rw [hp] at q; cases q; exact nl _ rfl
      cases d with
      | lst ws => obtain ⟨xs, h1, h2⟩ := q; exact ⟨xs, keep h1 (.inl rfl), h2.mono hE⟩
      | scr ws =>
        obtain ⟨xs, h1, h2⟩ := q
        refine ⟨xs, ?_, h2.mono hE⟩
        rcases h1 with h1 | ⟨ob, h1⟩
        · exact .inl h1
        · exact .inr ⟨ob, keep h1 (.inr fun _ z => by cases z)⟩
      | ins c fs => obtain ⟨dx, gs, h1, h2⟩ := q; exact ⟨dx, gs, keep h1 (.inl rfl), h2.mono hE⟩
      | dct fs => obtain ⟨gs, h1, h2⟩ := q; exact ⟨gs, keep h1 (.inl rfl), h2.mono hE⟩
  · obtain ⟨k1, k2⟩ := mark_lt hk
    have h1 : (st.c.set n (.dct fs'))[i]? = some d := h1
    by_cases z : n = i
    · subst z
      rw [List.getElem?_set_self hlt] at h1
      cases h1
      cases b with
      | true => exact hb rfl _ (s.qi n) (s.back n _ hn k1)
      | false => exact absurd (k2 rfl) (Nat.lt_irrefl _)
    · rw [List.getElem?_set_ne z] at h1
      exact s.back i d h1 k1
theorem ext_dct {K : PySem.W.Frag} {μ : List Addr} {H : Hp} {p : Addr} {kvs kvs' : List (Key × V)} (hp : H p = some (.dK kvs)) : Ext K μ μ H (upd H p (.dK kvs')) := ⟨fun _ _ h => h, fun a xs h => by
  have ne : ∀ {u : HO}, H a = some u → (∀ g, u ≠ .dK g) → a ≠ p := fun {u} e nl z => by
    subst z
    rw [hp] at e; cases e; exact nl _ rfl
  rcases h with (h | ⟨ob, h⟩) | h
  · exact .inl (.inl (by rw [upd_ne (ne h fun _ z => by cases z)]; exact h))
  · exact .inl (.inr ⟨ob, by rw [upd_ne (ne h fun _ z => by cases z)]; exact h⟩)
  · exact .inr h⟩
def sDPut (d k v : Ev) : Sx := fun l st => xs (v l st) l fun w st1 => xs (d l st1) l fun x st2 => xs (k l st2) l fun y st3 => match x, y with
  | .ref n, .str s => match st3.c[n]? with
    | some (.dct fs) => if fs.length < 1000 then .nx l (st3.put n (.dct (dPut fs s w)) (W.low n w)) else .err
    | _ => .err
  | _, _ => .err
theorem qs_dput {pos pos' : Pos} (hu : X.A.units + 1 < cLine) (ho : PE X o (tE Γ Wx eo)) (hi : PE X i (tE Γ Wx ei)) (he : PE X e (tE Γ Wx ea)) (hs : swapsWith e (some (.Subscript o i pos')) pos.line X.env = pure false := by rfl) :
    PS X (.Assign [.Subscript o i pos'] e pos) (tS Γ Wx (sDPut eo ei ea)) :=
  PS_imp (ps_dput hu ho hi he hs) fun D σ H ⟨μ, l, st, hs, hl, h⟩ => tG_bindS hs hl h _ fun v st1 μ1 H1 vv e1 s1 r1 h1 => tG_bindS s1 (hl.mono e1) h1 _ fun x st2 μ2 H2 xv e2 s2 r2 h2 => tG_bindS s2 ((hl.mono e1).mono e2) h2 _ fun y st3 μ3 H3 yv e3 s3 r3 h3 => by
    split at h3
    · rename_i n s
      split at h3
      · rename_i fs ec
        split at h3
        · rename_i hlen
          cases r3
          cases r2 with
          | ref hm =>
            have hm3 := e3.pre _ _ hm
            obtain ⟨gs, q1, q2⟩ := s3.cell n _ _ ec hm3
            have lg : (dKeys gs).length < sizeLine := by
              have : gs.length = fs.length := q2.length.symm
              unfold dKeys; rw [List.length_map, this]
              exact small1000 (Nat.le_of_lt hlen)
            have rv := r1.mono (e2.trans e3)
            have E : Ext Γ.K μ3 μ3 H3 (upd H3 _ (.dK (dKeys (gPut gs s vv)))) := ext_dct q1
            refine ⟨_, _, rfl, DPut.k (k := (Sum.inr s : Key)) (v := vv) q1 lg, ?_⟩
            rw [put_keys]
            exact h3 _ _ _ E (s3.writeD ec hm3 q1 ((put_rep s rv q2).mono E) (fun b m hm q => low_dput (W.low_mono hm b) q) E) (hl.mono (((e1.trans e2).trans e3).trans E))
        · exact h3.elim
      · exact h3.elim
    · exact h3.elim
end
end RB
namespace RB
open PySem PySem.Spec PyProof.Rows L2
section
variable {X : Cx} {Γ : Gf} {Wx : WX} {e a b o i : Expr} {ea eb eo ei : Ev}
def KeysK (K : PySem.W.Frag) (d : Addr) (ks : List Str) : Prop := ∀ z, ∃ r, PySem.W.nsIn K d z = some r ∧ r.isSome = ks.contains z
def eInK (ks : List Str) (a : Ev) : Ev := fun l st => (a l st).bind fun x st1 => match x with | .str s => .ok (.bl (ks.contains s)) st1 | _ => .err
def DkX (K : PySem.W.Frag) (w : World) (mg : Str → Option Value) (x : Str) (ks : List Str) : Prop := ∃ d es n, mg x = some (.ref d) ∧ KDict K w d es n ∧ KeysK K d ks
end
end RB
namespace RB
open PySem PySem.Spec PyProof.Rows L2
abbrev ClU := (Nat → Option Bool) × Sx
def calmR : RS → RS
  | .exc _ _ _ _ => .err
  | r => r
def tryU : List ClU → Nat → W → Lo → Sto → RS
  | [], k, p, l, st => .exc k p l st
  | (is, sx) :: r, k, p, l, st => match is k with | some true => calmR (sx l st) | some false => tryU r k p l st | none => .err
def sTryU (cs : List ClU) (body : Sx) : Sx := fun l st => match body l st with
  | .exc k p l1 st1 => tryU cs k p l1 st1
  | r => r
section
variable {X : Cx} {Γ : Gf} {Wx : WX}
abbrev suU (Γ : Gf) (sx : Sx) : Addr → Value → Option Addr → TS := fun _ _ _ => tS Γ W0 sx
inductive TryUl (Γ : Gf) (X : Cx) : List ExceptHandler → List ClU → List (Value × (Addr → Value → Option Addr → TS)) → Prop
  | nil : TryUl Γ X [] [] []
  | cons {x : Str} {c : Value} {b0 : Stmt} {su : List Stmt} {p1 p2 : Pos} {is : Nat → Option Bool} {sx : Sx} {hs : List ExceptHandler} {cs : List ClU} {l : List (Value × (Addr → Value → Option Addr → TS))} (hc : Names X x c)
      (his : ∀ k b, is k = some b → PySem.W.exmOne Γ.K (.ref (Γ.ec k)) c = some b) (hsu : ∀ (a : Addr) (oe : Obj) (pn : List (Addr × Obj)), PSs (X.suite a ((a, oe) :: pn)) (b0 :: su) (tS Γ W0 sx)) (r : TryUl Γ X hs cs l) :
      TryUl Γ X (.ExceptHandler (some (.Name x p1)) none (b0 :: su) p2 :: hs) ((is, sx) :: cs) ((c, suU Γ sx) :: l)
theorem TryUl.ok {hs : List ExceptHandler} {cs : List ClU} {l : List (Value × (Addr → Value → Option Addr → TS))} (h : TryUl Γ X hs cs l) : L2.HdsOk X hs l := by
  induction h with
  | nil => exact .nil
  | cons hc his hsu r ih => exact .cons hc (fun a oe cls d pn hz hf => hsu a oe pn) ih
theorem calm_post {μ : List Addr} {H : Hp} {D : Ends} {r : RS} (h : PostS Γ Wx μ H D (calmR r)) : PostS Γ W0 μ H D r := by
  cases r with
  | exc k p l st => exact h.elim
  | nx l st => exact h
  | rt w st => exact h
  | bk l st => exact h
  | ct l st => exact h
  | err => exact h
theorem TryUl.wish {hs : List ExceptHandler} {cs : List ClU} {l : List (Value × (Addr → Value → Option Addr → TS))} (h : TryUl Γ X hs cs l) (hK : X.K = Γ.K) {D : Ends} {k : Nat} {p : W} {l1 : Lo} {st1 : Sto} {μ μ1 : List Addr} {H H1 : Hp} {σ1 : L2.St} {d : Addr} {v : V}
    (hP : PostS Γ Wx μ H D (tryU cs k p l1 st1)) (e1 : Ext Γ.K μ μ1 H H1) (s1 : Sim Γ μ1 st1 H1) (lr1 : LRep Γ.K μ1 H1 l1 σ1) (r1 : Rep Γ.K μ1 H1 p v) (q1 : H1 d = some (.xd [(Γ.fld k, v)])) : L2.wMany X.K Wx D l (.ref (Γ.ec k)) (some d) σ1 H1 := by
  induction h with
  | nil => exact hP μ1 H1 σ1 d v e1 s1 lr1 r1 q1
  | @cons x c b0 su p1 p2 is sx hs cs l hc his hsu r ih =>
    have hP : PostS Γ Wx μ H D (match is k with | some true => calmR (sx l1 st1) | some false => tryU cs k p l1 st1 | none => .err) := hP
    cases ek : is k with
    | none => rw [ek] at hP; exact hP.elim
    | some b =>
      rw [ek] at hP
      refine ⟨b, by rw [hK]; exact his k b ek, fun hb a ha => ?_, fun hb => ?_⟩
      · subst hb
        exact ⟨μ1, l1, st1, s1, lr1, PostS.mono (calm_post hP) e1⟩
      · subst hb
        exact ih hP
theorem qs_tryU {body : List Stmt} {h1 : ExceptHandler} {hs : List ExceptHandler} {cs : List ClU} {lc : List (Value × (Addr → Value → Option Addr → TS))} {pos : Pos} {sx : Sx} (hK : X.K = Γ.K) (est : X.stack = X.env :: X.outer) (efr : X.env.frame = some X.env.locals) (tk : Takes X Wx)
    (hcl : TryUl Γ X (h1 :: hs) cs lc)
    (hb : ∀ (W : WX) (pn : List (Addr × Obj)) (xe : Value → Shared → Prop), Takes (X.tr pn xe) W → PassesOwn (model X.prog X.w) X.A X.env xe → PSs (X.tr pn xe) body (tS Γ W sx)) :
    PS X (.Try body (h1 :: hs) [] [] pos) (tS Γ Wx (sTryU cs sx)) := by
  refine PS_imp (L2.ps_try_many (Wout := Wx) est efr tk hb hcl.ok) fun D σ H ⟨μ, l, st, hs, hl, h⟩ => ?_
  refine ⟨μ, l, st, hs, hl, ?_⟩
  unfold sTryU at h
  cases e : sx l st with
  | nx l1 st1 => rw [e] at h; exact h
  | rt w st1 => rw [e] at h; exact h
  | bk l1 st1 => rw [e] at h; exact h
  | ct l1 st1 => rw [e] at h; exact h
  | err => rw [e] at h; exact h
  | exc k p l1 st1 =>
    rw [e] at h
    exact fun μ1 H1 σ1 d v e1 s1 lr1 r1 q1 => hcl.wish hK h e1 s1 lr1 r1 q1
theorem k_tryU {cs : List ClU} {b : Sx} {l : Lo} {st : Sto} {D : Po4} : OkS (sTryU cs b l st) D = OkS (b l st) { D with ex := fun c p l1 st1 => OkS (tryU cs c p l1 st1) D } := by
  unfold sTryU; cases b l st <;> rfl
end
section
variable {X : Cx} {Γ : Gf} {Wx : WX} {e o : Expr} {es : List Expr} {eo : Ev} {eas : Evs}
theorem qe_make0 {k np c : Nat} {x : Str} {dws : List W} {F : List W → Sto → Res W} {p pos : Pos} (G : FnI Γ.toGm X.prog X.w X.mg X.base k x c np dws F) (hK : X.K = Γ.K) (hr : Room (k + 1) X.A) (tk : Takes X Wx) (hg : Gl X x) (hm : dws.length + 1 = np)
    (hdb : (x == ("__debug__" : Str)) = false := by decide) : PE X (.Call (.Name x p) [] [] pos) (tE Γ Wx (eMake c F dws evNil)) := by
  obtain ⟨f, fd, ps, ds, dvs, F1, M, hmg, hb, hd, hdr⟩ := G.ex
  rw [← hK] at F1 M hb
  refine ⟨fun pins s σ H Q I hh => ?_⟩
  obtain ⟨μ, l, st, hs, hl, h⟩ := hh
  refine wpAny_Call_Name_kw (ld_glob I hg hmg ?_ hdb)
  refine PySem.W.callWith_K0 I.kIn M.kp (make_at (us := []) (vs := []) (E := WE Wx σ) M F1 hr hb hd (passAt tk σ) I .nil ?_)
  intro y dy hy hdy hne
  have h1 : Post Γ Wx (Rep Γ.K) μ σ H Q ((F (.ref st.c.length :: ([] ++ dws)) (st.push (.ins c []))).bind fun v st2 => match v with | .non => .ok (.ref st.c.length) st2 | _ => .err) := h
  have E1 : Ext Γ.K μ μ H (upd H dy (.own y)) := ext_upd (.inl hdy)
  have n1 : upd H dy (.own y) y = none := by rw [upd_ne (Ne.symm hne)]; exact hy
  have E2 : Ext Γ.K μ (μ ++ [y]) (upd H dy (.own y)) (upd (upd H dy (.own y)) y (.ins (Γ.cl c) dy [])) := ext_new n1
  have S2 : Sim Γ (μ ++ [y]) (st.push (.ins c [])) (upd (upd H dy (.own y)) y (.ins (Γ.cl c) dy [])) := (hs.other hdy).new n1 ⟨dy, [], upd_same, .nil⟩ rfl
  have E3 := E1.trans E2
  refine spF_gen G.mkd (ws := .ref st.c.length :: ([] ++ dws)) S2 (.cons (.ref (by rw [← hs.len]; simp)) (Reps.append .nil (hdr _ _))) ?_ ?_
  · rw [List.length_cons, List.nil_append, hm]
  · have h2 := Post.mono h1 E3
    generalize F (.ref st.c.length :: ([] ++ dws)) (st.push (.ins c [])) = r at h2 ⊢
    cases r with
    | err => exact h2
    | exc c p st2 => exact h2
    | ok w st2 =>
      intro μ4 H4 v e4 s4 r4
      cases w with
      | non =>
        cases r4
        exact ⟨rfl, h2 μ4 H4 _ e4 s4 (.ref (e4.pre _ _ (by rw [← hs.len]; simp)))⟩
      | _ => exact h2.elim
def eMethX (c : Nat) (m : Str) (F : List W → Sto → Res W) (o : Ev) (a : Evs) : Ev := fun l st => (o l st).bind fun x st1 => match x with
  | .ref n => match st1.c[n]? with
    | some (.ins k fs) => if k = c ∧ fs.lookup m = none then (a l st1).bind fun ws st2 => F (.ref n :: ws) st2 else .err
    | _ => .err
  | _ => .err
theorem qe_methX {np k c : Nat} {m : Str} {F : List W → Sto → Res W} {apos pos : Pos} {pl : Sem Bool} (G : FnM Γ.toGm X.prog X.w X.mg X.base k m c np F) (hK : X.K = Γ.K) (hcl : Cls Γ.K (Γ.cl c)) (hr : Room k X.A) (tk : Takes X Wx) (ho : PE X o (tE Γ Wx eo)) (ha : PA X (e :: es) (tA Γ Wx eas)) (j : Nat) (hj : j + 1 = np) (hlen : evLen j eas)
    (hst : starEach (e :: es) X.env = (false, eval e X.env) :: starEach es X.env := by rfl) (hpl : (backTo pos (starEach es X.env)).any (·.1) = false := by rfl)
    (ht : eval (.Call (.Attribute o m apos) (e :: es) [] pos) X.env = (do
      let ov ← eval o X.env
      standAt apos.atName
      let (f, first) ← holding [ov] (getMethod ov m pl)
      callWith pos f first (backTo pos (starEach (e :: es) X.env)) (backToKw pos (keywordEach [] X.env))) := by rfl) : PE X (.Call (.Attribute o m apos) (e :: es) [] pos) (tE Γ Wx (eMethX c m F eo eas)) := by
  obtain ⟨f, fd, ps, F1, hm, hb⟩ := G.ex
  rw [← hK] at F1 hm hb hcl
  refine ⟨fun pins s σ H Q I ⟨μ, l, st, hs, hl, h⟩ => ?_⟩
  have hE : tE Γ Wx eo σ H fun x H1 => ∃ p dx gs, x = .ref p ∧ H1 p = some (.ins (Γ.cl c) dx gs) ∧ gs.lookup m = none ∧ tA Γ Wx eas σ H1 fun vs H2 => spF Γ.toGm np F (.ref p :: vs) H2 Q (WE Wx σ) :=
    tG_bind hs hl h _ fun w st1 μ1 H1 v e1 s1 r1 h1 => by
      split at h1
      · rename_i n
        split at h1
        · rename_i k2 fs ec
          split at h1
          · rename_i hk2
            obtain ⟨hk2, hlk⟩ := hk2
            subst hk2
            cases r1 with
            | ref hmm =>
              rename_i p
              obtain ⟨dx, gs, q1, q2⟩ := s1.cell n _ _ ec hmm
              refine ⟨_, dx, gs, rfl, q1, q2.none hlk, μ1, l, st1, s1, hl.mono e1, ?_⟩
              cases ee : eas l st1 with
              | err => rw [ee] at h1; exact h1
              | exc c p st2 => rw [ee] at h1; exact h1
              | ok ws st2 =>
                rw [ee] at h1
                intro μ2 H2 vs e2 s2 r2
                have hp2 := e2.pre _ _ hmm
                have h3 := Post.mono (show Post Γ Wx (Rep Γ.K) μ1 σ H1 Q (F (.ref n :: ws) st2) from h1) e2
                refine spF_gen G.mkd (ws := .ref n :: ws) s2 (.cons (.ref hp2) r2) (by rw [List.length_cons, hlen l st1 ws st2 ee]; exact hj) ?_
                generalize F (.ref n :: ws) st2 = r at h3 ⊢
                cases r with
                | ok w st1 => exact h3
                | exc c p st1 => exact h3
                | err => exact h3
          · exact h1.elim
        · exact h1.elim
      · exact h1.elim
  refine PySem.W.methodCall_KW (pl := pl) (thn (ho.run pins s σ H _ I hE) fun u s1 ⟨x, H1, I1, rx, a, dx, fs, ex, ea, l, q⟩ => ?_) ht
  subst ex
  obtain rfl : u = Value.ref a := rx
  refine getmeth_ok I1 ea hcl hm l ?_
  refine PySem.W.callWith_K (first := [.ref a]) (h₀ := X.base) I.ok.mod.kin hm.kp (thn (ha.run pos pins s1 σ H1 _ I1 q) fun us s2 ⟨vs, H2, I2, r, q2⟩ => ⟨I2.kIn, ?_⟩) hst hpl
  exact run_fnSD (us := .ref a :: us) (vs := .ref a :: vs) (dvs := []) (ds := []) (E := fun σ => WE Wx σ) F1 hr hb .nil (passAt tk σ) I2 (.cons rfl r) (by rw [List.append_nil]; exact q2)
structure FnS (Γ : Gm) (P : Program) (w : World) (mg : Str → Option Value) (base : Heap) (k : Nat) (m : Str) (c np : Nat) (F : List W → Sto → Res W) : Prop where
  ex : ∃ (f : Addr) (fd : FuncData) (ps : List Str) (p : Addr) (rest : List Value), FnOk P w Γ.K mg base (L2.CX P w) k f fd ps (spF Γ np F) ∧ PySem.W.readsIn Γ.K (Γ.cl c) (.type "type") = true ∧ PySem.W.specialIn Γ.K (.ref (Γ.cl c)) "__getattribute__" = some (some (.builtin "type.__getattribute__")) ∧
    PySem.W.findCls Γ.K (.ref (Γ.cl c)) (.type "type") m = some (.get (.builtin "staticmethod.__get__") (.ref p) .none (.ref (Γ.cl c))) ∧ PySem.W.recIn Γ.K p "staticmethod" = some (.ref f :: rest) ∧ PySem.W.keepIn Γ.K (.ref f) = true ∧ L2.Binds Γ.K fd ps []
  mkd : Mark F
theorem qe_stat {np k c : Nat} {C m : Str} {F : List W → Sto → Res W} {p apos pos : Pos} {pl : Sem Bool} (G : FnS Γ.toGm X.prog X.w X.mg X.base k m c np F) (hK : X.K = Γ.K) (hr : Room k X.A) (tk : Takes X Wx) (hg : Gl X C) (hmg : X.mg C = some (.ref (Γ.cl c))) (ha : PA X (e :: es) (tA Γ Wx eas)) (j : Nat) (hj : j = np) (hlen : evLen j eas)
    (hd : (C == ("__debug__" : Str)) = false := by decide)
    (hst : starEach (e :: es) X.env = (false, eval e X.env) :: starEach es X.env := by rfl) (hpl : (backTo pos (starEach es X.env)).any (·.1) = false := by rfl)
    (ht : eval (.Call (.Attribute (.Name C p) m apos) (e :: es) [] pos) X.env = (do
      let ov ← eval (.Name C p) X.env
      standAt apos.atName
      let (f, first) ← holding [ov] (getMethod ov m pl)
      callWith pos f first (backTo pos (starEach (e :: es) X.env)) (backToKw pos (keywordEach [] X.env))) := by rfl) : PE X (.Call (.Attribute (.Name C p) m apos) (e :: es) [] pos) (tE Γ Wx (eCall F [] eas)) := by
  obtain ⟨f, fd, ps, pp, rest, F1, r1, r2, r3, r4, hk, hb⟩ := G.ex
  rw [← hK] at F1 r1 r2 r3 r4 hk hb
  refine ⟨fun pins s σ H Q I ⟨μ, l, st, hs, hl, h⟩ => ?_⟩
  have hE : tA Γ Wx eas σ H fun vs H1 => spF Γ.toGm np F (vs ++ []) H1 Q (WE Wx σ) := by
    refine ⟨μ, l, st, hs, hl, ?_⟩
    unfold eCall at h
    cases ee : eas l st with
    | ok ws st1 =>
      rw [ee] at h
      exact fun μ1 H1 vs e1 s1 r1 => spF_run (dws := []) (dvs := []) G.mkd s1 r1 .nil (by rw [List.append_nil, hlen l st ws st1 ee]; exact hj) (Post.mono (show Post Γ Wx (Rep Γ.K) μ σ H Q (F (ws ++ []) st1) from h) e1)
    | exc c p st1 => rw [ee] at h; exact h
    | err => rw [ee] at h; exact h
  refine PySem.W.methodCall_KW (pl := pl) (thn ((pe_glob (v := V.ref (Γ.cl c)) (pos := p) hg hmg rfl hd).run pins s σ H (fun x H1 => x = .ref (Γ.cl c) ∧ tA Γ Wx eas σ H1 fun vs H2 => spF Γ.toGm np F (vs ++ []) H2 Q (WE Wx σ)) I ⟨rfl, hE⟩) fun u s1 ⟨x, H1, I1, rx, ex, q⟩ => ?_) ht
  subst ex
  obtain rfl : u = Value.ref (Γ.cl c) := rx
  refine PySem.W.method_cls I1.kIn r2 (PySem.W.cls_bind I1.kIn r1 r3 (wpAny_call (PySem.W.sm_get (s := { s1 with toks := s1.toks + 1 }) I1.kIn r4 (PySem.W.handed_on rfl ?_))))
  refine PySem.W.callWith_K (h₀ := X.base) I.ok.mod.kin hk (thn (ha.run pos pins _ σ H1 _ (I1.tok _) q) fun us s3 ⟨vs, H2, I2, r, q2⟩ => ⟨I2.kIn, ?_⟩) hst hpl
  exact run_fnSD (E := fun σ => WE Wx σ) F1 hr hb .nil (passAt tk σ) I2 r q2
end
section
variable {X : Cx} {Γ : Gf} {Wx : WX} {e a b o i : Expr} {ea eb eo ei : Ev} {eas : Evs}
theorem bval_imp {σ : L2.St} {H : Hp} {Q : Bool → Hp → Prop} (h : tT Γ Wx (bVal ea) σ H Q) : tE Γ Wx ea σ H fun x H' => ∃ k, x = .bl k ∧ Q k H' := by
  obtain ⟨μ, l, st, hs, hl, h⟩ := h
  exact tG_bind hs hl h _ fun w st1 μ1 H1 v e1 s1 r1 h1 => by
    cases w with
    | bl c => cases r1; exact ⟨c, rfl, h1.here s1 rfl⟩
    | _ => exact h1.elim
theorem qt_dnotin {pos : Pos} (hu : X.A.units + 1 < cLine) (hi : PE X i (tE Γ Wx ei)) (ho : PE X o (tE Γ Wx eo)) (hm : behindInMarks .NotIn o = false := by rfl) : PT X (.Compare i [.NotIn] [o] pos) (tT Γ Wx (bVal (eDIn true ei eo))) :=
  PT_imp (pt_cmp (pc_dnotin hu hi ho) hm) fun σ H Q h => by
    have := din_run σ H _ (bval_imp h)
    simpa [tDNotIn, tB] using this
theorem qt_inD {x : Str} {ks : List Str} {p pos : Pos} (D : DkX X.K X.w X.mg x ks) (hg : Gl X x) (ha : PE X a (tE Γ Wx ea)) (hd : (x == ("__debug__" : Str)) = false := by decide) (hb : behindInMarks .In (.Name x p) = false := by rfl) :
    PT X (.Compare a [.In] [.Name x p] pos) (tT Γ Wx (bVal (eInK ks ea))) := by
  obtain ⟨d, es, n, h1, h2, hk⟩ := D
  refine PT_imp (pt_cmpR (op_in_kd h2) ha (pe_glob (v := V.ref d) hg h1 rfl hd) hb) fun σ H Q h => ?_
  obtain ⟨μ, l, st, hs, hl, h⟩ := bval_imp h
  exact tG_bind hs hl h _ fun y st1 μ1 H1 yv e1 s1 r1 h1 => by
    split at h1
    · rename_i s
      cases r1
      obtain ⟨r, q1, q2⟩ := hk s
      exact ⟨s, r, rfl, rfl, q1, by rw [q2]; exact h1.here s1 (.bl _)⟩
    · exact h1.elim
def sPar3 (i j k : Nat) (as : Evs) : Sx := fun l st => xs (as l st) l fun ws st1 => match ws with
  | [x, y, z] => .nx (((l.set i (some x)).set j (some y)).set k (some z)) st1
  | _ => .err
theorem qs_par3 {i j k : Nat} {x y z : Str} {a b c : Expr} {px py pz pt pos : Pos} {kt k2 pt2} (hc : X.calm = true) (hN : X.N.Nodup) (hi : X.N[i]? = some x) (hj : X.N[j]? = some y) (hk : X.N[k]? = some z) (hij : i ≠ j) (hik : i ≠ k) (hjk : j ≠ k)
    (hx : X.env.scope.names.lookup x = some .local) (hy : X.env.scope.names.lookup y = some .local) (hz : X.env.scope.names.lookup z = some .local) (ha : PA X [a, b, c] (tA Γ Wx eas))
    (hw : swappedStores [.Tuple [.Name x px, .Name y py, .Name z pz] kt pt] (.Tuple [a, b, c] k2 pt2) X.env = pure (some [x, y, z]) := by rfl)
    (hs : swapsWithSole [.Tuple [.Name x px, .Name y py, .Name z pz] kt pt] (.Tuple [a, b, c] k2 pt2) pos.line X.env = pure false := by rfl) :
    PS X (.Assign [.Tuple [.Name x px, .Name y py, .Name z pz] kt pt] (.Tuple [a, b, c] k2 pt2) pos) (tS Γ Wx (sPar3 i j k eas)) :=
  PS_imp (L2.ps_par3 hc hN hi hj hk hij hik hjk hx hy hz ha hw hs) fun D σ H ⟨μ, l, st, hs, hl, h⟩ => tG_bindS hs hl h _ fun ws st1 μ1 H1 vs e1 s1 r1 h1 => by
    split at h1
    · cases r1 with
      | cons q1 r =>
        cases r with
        | cons q2 r =>
          cases r with
          | cons q3 r =>
            cases r
            exact ⟨_, _, _, rfl, h1 _ _ _ .refl s1 ((((hl.mono e1).set q1 i).set q2 j).set q3 k)⟩
    · exact h1.elim
theorem k_par3 {i j k : Nat} {l : Lo} {st : Sto} {D : Po4} : OkS (sPar3 i j k eas l st) D = Ok (eas l st) (fun c p st => D.ex c p l st) fun ws st1 => match ws with | [x, y, z] => D.nx (((l.set i (some x)).set j (some y)).set k (some z)) st1 | _ => False := by
  unfold sPar3; rw [k_xs]; congr 1; funext ws st1; rcases ws with _ | ⟨_, _ | ⟨_, _ | ⟨_, _ | ⟨_, _⟩⟩⟩⟩ <;> rfl
end
theorem keys_find {P : Params} : ∀ {l : List DictEntry} {ks : List Str}, l.map He.keyOf = He.keysIn P ks → ∀ z : Str, (l.find? (·.key.isStr z)).isSome = ks.contains z ∧ l.any (·.refKey) = false
  | [], [], _, z => ⟨rfl, rfl⟩
  | [], _ :: _, h, _ => by cases h
  | _ :: _, [], h, _ => by cases h
  | e :: r, k :: ks, h, z => by
    have h1 : He.keyOf e :: r.map He.keyOf = some (k, PyData.keyHash P k) :: He.keysIn P ks := h
    injection h1 with h2 h3
    obtain ⟨ih1, ih2⟩ := keys_find h3 z
    unfold He.keyOf at h2
    split at h2
    · rename_i x t q
      obtain ⟨h5, h6⟩ := Prod.mk.inj (Option.some.inj h2)
      subst h5
      have e1 : e.key.isStr z = (x == z) := by rw [q]; rfl
      have e2 : e.refKey = false := by unfold DictEntry.refKey; rw [q]
      refine ⟨?_, by rw [List.any_cons, e2, ih2]; rfl⟩
      rw [List.find?_cons, e1, List.contains_cons, Bool.beq_comm (a := z)]
      cases x == z with
      | true => rfl
      | false => rw [Bool.false_or]; exact ih1
    · cases h2
theorem keysK_of {K : PySem.W.Frag} {P : Params} {a : Addr} {ks : List Str} (h : He.dicW K a = some (He.keysIn P ks)) : KeysK K a ks := by
  unfold He.dicW at h
  cases q : K.lookup a with
  | none => rw [q] at h; cases h
  | some o =>
    obtain ⟨oc, od, dt, osl⟩ := o
    rw [q] at h
    cases oc with
    | type c =>
      cases od with
      | none =>
        cases dt with
        | dict es n =>
          have h1 : (match decide (c = "dict") && (osl.isEmpty && !(a == sysModules)) with | true => some (es.toList.map He.keyOf) | false => none) = some (He.keysIn P ks) := h
          split at h1
          · have h2 := Option.some.inj h1
            intro z
            obtain ⟨k1, k2⟩ := keys_find h2 z
            unfold PySem.W.nsIn
            rw [q]
            dsimp only
            cases ef : es.toList.find? (·.key.isStr z) with
            | some e => rw [ef] at k1; exact ⟨some e.val, rfl, k1⟩
            | none => rw [ef] at k1; exact ⟨none, by rw [k2]; rfl, k1⟩
          · cases h1
        | _ => cases h
      | some b => cases dt <;> cases h
    | _ => cases od <;> cases dt <;> cases h
theorem dkX_of {K : PySem.W.Frag} {w : World} {mg : Str → Option Value} {x : Str} {a : Addr} {ks : List Str} (hm : mg x = some (.ref a)) (h : He.dicW K a = some (He.keysIn w.params ks)) : DkX K w mg x ks := by
  obtain ⟨es, n, D⟩ := He.dicW_ok h
  exact ⟨a, es, n, hm, D, keysK_of h⟩
end RB
namespace LW
open PySem PySem.Spec PyProof.Rows L2 RB
def top (i : Nat) : Stmt := PySem.Challenge.pw_racebooks_k73_logs_that_are_wrong.main.body.getD i (.Pass ⟨0, 0, 0, 0⟩)
def ans_int : Tn → Option Bool
  | .non => some false
  | .bl => some true
  | .int => some true
  | .str => some false
  | .tup => some false
  | .lst => some false
  | .cls c => if c = 0 then some false else none
def ans_bool : Tn → Option Bool
  | .non => some false
  | .bl => some true
  | .int => some false
  | .str => some false
  | .tup => some false
  | .lst => some false
  | .cls c => if c = 0 then some false else none
def ans_list_tuple : Tn → Option Bool
  | .non => some false
  | .bl => some false
  | .int => some false
  | .str => some false
  | .tup => some true
  | .lst => some true
  | .cls c => if c = 0 then some false else none
def ans_str : Tn → Option Bool
  | .non => some false
  | .bl => some false
  | .int => some false
  | .str => some true
  | .tup => some false
  | .lst => some false
  | .cls c => if c = 0 then some false else none
def cat_BadValue (k : Nat) : Option Bool := if k < 4 then some (k == 0) else none
def cat_BadOffer (k : Nat) : Option Bool := if k < 4 then some (k == 1) else none
def cat_BadSyntax (k : Nat) : Option Bool := if k < 4 then some (k == 2) else none
def cat_TooMany (k : Nat) : Option Bool := if k < 4 then some (k == 3) else none
structure TX (K : PySem.W.Frag) (mg : Str → Option Value) (cl ec : Nat → Addr) (fld : Nat → Str) : Prop where
  b_all : mg "all" = none
  b_bool : mg "bool" = none
  b_enumerate : mg "enumerate" = none
  b_int : mg "int" = none
  b_isinstance : mg "isinstance" = none
  b_len : mg "len" = none
  b_list : mg "list" = none
  b_range : mg "range" = none
  b_set : mg "set" = none
  b_sorted : mg "sorted" = none
  b_str : mg "str" = none
  b_tuple : mg "tuple" = none
  g_gcd : mg "gcd" = some (.builtin "math.gcd")
  na_Console__commands : NoAttr K (cl 2) "_commands"
  na_Console__races : NoAttr K (cl 2) "_races"
  na_Race__absent : NoAttr K (cl 0) "_absent"
  na_Race__cuts : NoAttr K (cl 0) "_cuts"
  na_Race__runners : NoAttr K (cl 0) "_runners"
  na_Race__ties : NoAttr K (cl 0) "_ties"
  k_MOST_DIGITS : ∃ t, mg "MOST_DIGITS" = some (.int 4 t)
  k_MOST_LETTERS : ∃ t, mg "MOST_LETTERS" = some (.int 12 t)
  k_MOST_CUT : ∃ t, mg "MOST_CUT" = some (.int 90 t)
  k_MOST_RUNNERS : ∃ t, mg "MOST_RUNNERS" = some (.int 4 t)
  c_Race : ClsI K (cl 0)
  m_Race : mg "Race" = some (.ref (cl 0))
  c_Table : ClsI K (cl 1)
  m_Table : mg "Table" = some (.ref (cl 1))
  c_Console : ClsI K (cl 2)
  m_Console : mg "Console" = some (.ref (cl 2))
  e_BadValue : PySem.ErrX.ErrC K (ec 0) (fld 0)
  ef_BadValue : fld 0 = "at"
  em_BadValue : mg "BadValue" = some (.ref (ec 0))
  is_BadValue : ∀ k b, cat_BadValue k = some b → PySem.W.exmOne K (.ref (ec k)) (.ref (ec 0)) = some b
  it_BadValue : ∀ k, cat_BadValue k = some true → fld k = "at" ∧ PySem.ErrX.ErrC K (ec k) "at"
  e_BadOffer : PySem.ErrX.ErrC K (ec 1) (fld 1)
  ef_BadOffer : fld 1 = "at"
  em_BadOffer : mg "BadOffer" = some (.ref (ec 1))
  is_BadOffer : ∀ k b, cat_BadOffer k = some b → PySem.W.exmOne K (.ref (ec k)) (.ref (ec 1)) = some b
  it_BadOffer : ∀ k, cat_BadOffer k = some true → fld k = "at" ∧ PySem.ErrX.ErrC K (ec k) "at"
  e_BadSyntax : PySem.ErrX.ErrC K (ec 2) (fld 2)
  ef_BadSyntax : fld 2 = "at"
  em_BadSyntax : mg "BadSyntax" = some (.ref (ec 2))
  is_BadSyntax : ∀ k b, cat_BadSyntax k = some b → PySem.W.exmOne K (.ref (ec k)) (.ref (ec 2)) = some b
  it_BadSyntax : ∀ k, cat_BadSyntax k = some true → fld k = "at" ∧ PySem.ErrX.ErrC K (ec k) "at"
  e_TooMany : PySem.ErrX.ErrC K (ec 3) (fld 3)
  ef_TooMany : fld 3 = "word"
  em_TooMany : mg "TooMany" = some (.ref (ec 3))
  is_TooMany : ∀ k b, cat_TooMany k = some b → PySem.W.exmOne K (.ref (ec k)) (.ref (ec 3)) = some b
  it_TooMany : ∀ k, cat_TooMany k = some true → fld k = "word" ∧ PySem.ErrX.ErrC K (ec k) "word"
  ai_int : AllI ⟨K, cl, ec, fld⟩ ans_int
  an_int : Ans ⟨K, cl, ec, fld⟩ [.int] ans_int
  ai_bool : AllI ⟨K, cl, ec, fld⟩ ans_bool
  an_bool : Ans ⟨K, cl, ec, fld⟩ [.bl] ans_bool
  ai_list_tuple : AllI ⟨K, cl, ec, fld⟩ ans_list_tuple
  an_list_tuple : Ans ⟨K, cl, ec, fld⟩ [.lst, .tup] ans_list_tuple
  ai_str : AllI ⟨K, cl, ec, fld⟩ ans_str
  an_str : Ans ⟨K, cl, ec, fld⟩ [.str] ans_str
section
variable {P : Program} {w : World} {K : PySem.W.Frag} {mg : Str → Option Value} {base : Heap} {cl ec : Nat → Addr} {fld : Nat → Str}
abbrev s__law_numbers : Stmt := top 129
def F__law_numbers : List W → Sto → Res W := defn 6 (sSeq (sSet (tgName 1) (eLst (evNil))) (sSeq (sFor 1000000 (vSeq (eSl (eLoc 0) (poNone) (poSome (eLit (.int 63))))) (tgName 2) (sIf (bVal (eBin wGe (eLoc 2) (eBin wPow (eLit (.int 10)) (eLit (.int 18))))) (sSeq (sSet (tgName 3) (eLoc 2)) (sFor 1000000 (vRng1 (evCons (eLit (.int 60)) (evNil))) (tgName 4) (sSeq (sIf (bVal (eBin wEq (eLoc 3) (eLit (.int 0)))) (sBreak) (sNil)) (sSeq (sDrop (eMt fAppend (eLoc 1) (evCons (eBin wMod (eB fInt (evCons (eLoc 3) (evNil))) (eLit (.int 997))) (evNil)))) (sSet (tgName 3) (eBin wDiv (eLoc 3) (eLit (.int 997)))))))) (sFor 1000000 (vRng1 (evCons (eLit (.int 4)) (evNil))) (tgName 4) (sSeq (sSet (tgName 5) (eBin wMod (eB fInt (evCons (eBin wAdd (eBin wAdd (eBin wMul (eLoc 2) (eLit (.int 48271))) (eBin wMul (eLoc 4) (eLit (.int 69621)))) (eLit (.int 11))) (evNil))) (eLit (.int 2147483647)))) (sDrop (eMt fAppend (eLoc 1) (evCons (eBin wMod (eB fInt (evCons (eBin wAdd (eBin wMul (eLoc 5) (eLit (.int 16807))) (eLoc 4)) (evNil))) (eLit (.int 2147483629))) (evNil)))))))) (sSeq (sIf (bVal (eBin wEq (eB fLen (evCons (eLoc 1) (evNil))) (eLit (.int 0)))) (sDrop (eMt fAppend (eLoc 1) (evCons (eLit (.int 0)) (evNil)))) (sNil)) (sRet (eLoc 1)))))
theorem sc__law_numbers : FnScope ["script", "row", "cell", "left", "k", "mixed"] ["script"] (defScope s__law_numbers) := ⟨rfl, rfl, rfl, by decide +kernel, rfl, by decide +kernel, by decide +kernel⟩
theorem ok__law_numbers {f : Addr} {fd : FuncData} (F : L2.Fun K "_law_numbers" "_law_numbers" s__law_numbers f fd) (T : TX K mg cl ec fld) : FnOk P w K mg base (L2.CX P w) 1 f fd ["script"] (spF ⟨K, cl, ec, fld⟩ 1 F__law_numbers) := by
  refine q_ok F sc__law_numbers rfl rfl fun b q cdv A outer s H E hr => ?_
  have TK := takes_of (X := cxOf (L2.CX P w) P w K mg base ["script", "row", "cell", "left", "k", "mixed"] "_law_numbers" (defScope s__law_numbers) f cdv A outer s H E) rfl rfl rfl rfl
  exact qs_cons (qs_set (qe_lst (qa_nil)) (qg_name (i := 1) (sc__law_numbers).nd rfl (by first | exact Or.inl rfl | exact Or.inr rfl))) (qs_cons (qs_for (n := 1000000) (passes_of (K := _) rfl) rfl (qi_seq rfl (qe_sl rfl (qe_loc 0) (qo_none) (qo_some (qe_int)))) (qg_name (i := 2) (sc__law_numbers).nd rfl (by first | exact Or.inl rfl | exact Or.inr rfl)) (qs_one (qs_if (t_cmp c_ge (qe_loc 2) (q_pow (qe_int) (qe_int))) (qs_cons (qs_set (qe_loc 2) (qg_name (i := 3) (sc__law_numbers).nd rfl (by first | exact Or.inl rfl | exact Or.inr rfl))) (qs_one (qs_for (n := 1000000) (passes_of (K := _) rfl) rfl (qi_rng1 (by rfl) T.b_range (qa_cons (qe_int) (qa_nil))) (qg_name (i := 4) (sc__law_numbers).nd rfl (by first | exact Or.inl rfl | exact Or.inr rfl)) (qs_cons (qs_if (t_cmp (c_eq rfl hr) (qe_loc 3) (qe_int)) (qs_one (qs_break)) (qs_nil)) (qs_cons (qs_drop (qe_mt rfl PySem.F.slot_list_append PySem.F.type_list_append mt_append mok_append (qe_loc 1) (qa_cons (q_mod (qe_typ call_int1 ok_fint (by rfl) T.b_int (by decide +kernel) (qa_cons (qe_loc 3) (qa_nil))) (qe_int)) (qa_nil)))) (qs_one (qs_set (q_div (qe_loc 3) (qe_int)) (qg_name (i := 3) (sc__law_numbers).nd rfl (by first | exact Or.inl rfl | exact Or.inr rfl))))))))) (qs_one (qs_for (n := 1000000) (passes_of (K := _) rfl) rfl (qi_rng1 (by rfl) T.b_range (qa_cons (qe_int) (qa_nil))) (qg_name (i := 4) (sc__law_numbers).nd rfl (by first | exact Or.inl rfl | exact Or.inr rfl)) (qs_cons (qs_set (q_mod (qe_typ call_int1 ok_fint (by rfl) T.b_int (by decide +kernel) (qa_cons (q_add rfl (q_add rfl (q_mul rfl (qe_loc 2) (qe_int)) (q_mul rfl (qe_loc 4) (qe_int))) (qe_int)) (qa_nil))) (qe_int)) (qg_name (i := 5) (sc__law_numbers).nd rfl (by first | exact Or.inl rfl | exact Or.inr rfl))) (qs_one (qs_drop (qe_mt rfl PySem.F.slot_list_append PySem.F.type_list_append mt_append mok_append (qe_loc 1) (qa_cons (q_mod (qe_typ call_int1 ok_fint (by rfl) T.b_int (by decide +kernel) (qa_cons (q_add rfl (q_mul rfl (qe_loc 5) (qe_int)) (qe_loc 4)) (qa_nil))) (qe_int)) (qa_nil))))))))))) (qs_cons (qs_if (t_cmp (c_eq rfl hr) (qe_blt call_len (ok_len rfl) (by rfl) T.b_len (by decide +kernel) (qa_cons (qe_loc 1) (qa_nil))) (qe_int)) (qs_one (qs_drop (qe_mt rfl PySem.F.slot_list_append PySem.F.type_list_append mt_append mok_append (qe_loc 1) (qa_cons (qe_int) (qa_nil))))) (qs_nil)) (qs_one (qs_ret (qe_loc 1)))))
abbrev s__law_draw : Stmt := top 130
def F__law_draw : List W → Sto → Res W := defn 4 (sSeq (sIf (bVal (eBin wLt (eLoc 1) (eB fLen (evCons (eLoc 0) (evNil))))) (sRet (eBin wMod (eB fInt (evCons (eBin wIx (eLoc 0) (eLoc 1)) (evNil))) (eLoc 2))) (sNil)) (sSeq (sSet (tgName 3) (eBin wMod (eB fInt (evCons (eBin wAdd (eBin wAdd (eBin wMul (eBin wIx (eLoc 0) (eBin wMod (eB fInt (evCons (eLoc 1) (evNil))) (eB fLen (evCons (eLoc 0) (evNil))))) (eLit (.int 40692))) (eBin wMul (eLoc 1) (eLit (.int 7919)))) (eLit (.int 3))) (evNil))) (eLit (.int 2147483399)))) (sRet (eBin wMod (eB fInt (evCons (eBin wMod (eB fInt (evCons (eBin wAdd (eBin wMul (eLoc 3) (eLit (.int 48271))) (eLoc 1)) (evNil))) (eLit (.int 2147483647))) (evNil))) (eLoc 2)))))
theorem sc__law_draw : FnScope ["row", "at", "limit", "mixed"] ["row", "at", "limit"] (defScope s__law_draw) := ⟨rfl, rfl, rfl, by decide +kernel, rfl, by decide +kernel, by decide +kernel⟩
theorem ok__law_draw {f : Addr} {fd : FuncData} (F : L2.Fun K "_law_draw" "_law_draw" s__law_draw f fd) (T : TX K mg cl ec fld) : FnOk P w K mg base (L2.CX P w) 1 f fd ["row", "at", "limit"] (spF ⟨K, cl, ec, fld⟩ 3 F__law_draw) := by
  refine q_ok F sc__law_draw rfl rfl fun b q cdv A outer s H E hr => ?_
  have TK := takes_of (X := cxOf (L2.CX P w) P w K mg base ["row", "at", "limit", "mixed"] "_law_draw" (defScope s__law_draw) f cdv A outer s H E) rfl rfl rfl rfl
  exact qs_cons (qs_if (t_cmp c_lt (qe_loc 1) (qe_blt call_len (ok_len rfl) (by rfl) T.b_len (by decide +kernel) (qa_cons (qe_loc 0) (qa_nil)))) (qs_one (qs_ret (q_mod (qe_typ call_int1 ok_fint (by rfl) T.b_int (by decide +kernel) (qa_cons (qe_ix rfl (qe_loc 0) (qe_loc 1)) (qa_nil))) (qe_loc 2)))) (qs_nil)) (qs_cons (qs_set (q_mod (qe_typ call_int1 ok_fint (by rfl) T.b_int (by decide +kernel) (qa_cons (q_add rfl (q_add rfl (q_mul rfl (qe_ix rfl (qe_loc 0) (q_mod (qe_typ call_int1 ok_fint (by rfl) T.b_int (by decide +kernel) (qa_cons (qe_loc 1) (qa_nil))) (qe_blt call_len (ok_len rfl) (by rfl) T.b_len (by decide +kernel) (qa_cons (qe_loc 0) (qa_nil))))) (qe_int)) (q_mul rfl (qe_loc 1) (qe_int))) (qe_int)) (qa_nil))) (qe_int)) (qg_name (i := 3) (sc__law_draw).nd rfl (by first | exact Or.inl rfl | exact Or.inr rfl))) (qs_one (qs_ret (q_mod (qe_typ call_int1 ok_fint (by rfl) T.b_int (by decide +kernel) (qa_cons (q_mod (qe_typ call_int1 ok_fint (by rfl) T.b_int (by decide +kernel) (qa_cons (q_add rfl (q_mul rfl (qe_loc 3) (qe_int)) (qe_loc 1)) (qa_nil))) (qe_int)) (qa_nil))) (qe_loc 2)))))
abbrev s__law_take : Stmt := top 131
def F__law_take : List W → Sto → Res W := defn 3 (sSeq (sIxW (eLoc 1) (eLit (.int 0)) (eBin wAdd (eBin wIx (eLoc 1) (eLit (.int 0))) (eLit (.int 1)))) (sRet (eCall (F__law_draw) [] (evCons (eLoc 0) (evCons (eBin wSub (eBin wIx (eLoc 1) (eLit (.int 0))) (eLit (.int 1))) (evCons (eLoc 2) (evNil)))))))
theorem sc__law_take : FnScope ["row", "spot", "limit"] ["row", "spot", "limit"] (defScope s__law_take) := ⟨rfl, rfl, rfl, by decide +kernel, rfl, by decide +kernel, by decide +kernel⟩
theorem ok__law_take {f : Addr} {fd : FuncData} (F : L2.Fun K "_law_take" "_law_take" s__law_take f fd) (T : TX K mg cl ec fld) (G__law_draw : Fn ⟨K, cl, ec, fld⟩ P w mg base 1 "_law_draw" 3 [] F__law_draw) : FnOk P w K mg base (L2.CX P w) 2 f fd ["row", "spot", "limit"] (spF ⟨K, cl, ec, fld⟩ 3 F__law_take) := by
  refine q_ok F sc__law_take rfl rfl fun b q cdv A outer s H E hr => ?_
  have TK := takes_of (X := cxOf (L2.CX P w) P w K mg base ["row", "spot", "limit"] "_law_take" (defScope s__law_take) f cdv A outer s H E) rfl rfl rfl rfl
  exact qs_cons (qs_ixw (q_add rfl (qe_ix rfl (qe_loc 1) (qe_int)) (qe_int)) (qe_loc 1) (qe_int)) (qs_one (qs_ret (qe_call1 G__law_draw rfl (hr.mono (by first | exact Nat.le_refl _ | omega)) TK (by rfl) (qa_cons (qe_loc 0) (qa_cons (q_sub (qe_ix rfl (qe_loc 1) (qe_int)) (qe_int)) (qa_cons (qe_loc 2) (qa_nil)))) 3 rfl (evLen_cons (evLen_cons (evLen_cons evLen_nil))))))
abbrev s__law_command : Stmt := top 134
def F__law_command : List W → Sto → Res W := defn 5 (sSeq (sSet (tgName 2) (eLst (evCons (eLit (.str "a")) (evCons (eLit (.str "b")) (evCons (eLit (.str "cup")) (evNil)))))) (sSeq (sSet (tgName 3) (eBin wIx (eLoc 2) (eCall (F__law_take) [] (evCons (eLoc 0) (evCons (eLoc 1) (evCons (eLit (.int 3)) (evNil))))))) (sSeq (sSet (tgName 4) (eLst (evCons (eLit (.str "race a 2 level absent - cuts 0,0")) (evCons (eLit (.str "race b 3 unlike absent 0,2 cuts 10,0,90")) (evCons (eLit (.str "race cup 1 level absent - cuts 5")) (evCons (eLit (.str "race a 5 level absent - cuts 0")) (evCons (eBin wAdd (eLit (.str "show ")) (eLoc 3)) (evCons (eBin wAdd (eLit (.str "outcomes ")) (eLoc 3)) (evNil))))))))) (sSeq (sSet (tgName 4) (eBin wAdd (eLoc 4) (eLst (evCons (eBin wAdd (eBin wAdd (eLit (.str "sure ")) (eLoc 3)) (eLit (.str " top1:0@3/2+ top1:1@1/1+"))) (evCons (eBin wAdd (eBin wAdd (eLit (.str "surest ")) (eLoc 3)) (eLit (.str " top1:0@3/2-"))) (evCons (eBin wAdd (eBin wAdd (eLit (.str "top ")) (eLoc 3)) (eLit (.str " top1:0"))) (evCons (eBin wAdd (eBin wAdd (eLit (.str "low ")) (eLoc 3)) (eLit (.str " row:0,1 top1:0@2/1+"))) (evNil)))))))) (sSeq (sSet (tgName 4) (eBin wAdd (eLoc 4) (eLst (evCons (eLit (.str "comes 1/10 1/100 9/10,3/1")) (evCons (eLit (.str "least 0/1 1/10 2/1,2/1")) (evNil)))))) (sSeq (sSet (tgName 4) (eBin wAdd (eLoc 4) (eLst (evCons (eLit (.str "comes 1/1 1/100 9/10")) (evCons (eBin wAdd (eBin wAdd (eLit (.str "sure ")) (eLoc 3)) (eLit (.str " top9:0@3/2+"))) (evCons (eLit (.str "least 2/20 1/100 -,18/20")) (evNil))))))) (sRet (eBin wIx (eLoc 4) (eCall (F__law_take) [] (evCons (eLoc 0) (evCons (eLoc 1) (evCons (eLit (.int 15)) (evNil)))))))))))))
theorem sc__law_command : FnScope ["row", "spot", "names", "one", "asks"] ["row", "spot"] (defScope s__law_command) := ⟨rfl, rfl, rfl, by decide +kernel, rfl, by decide +kernel, by decide +kernel⟩
theorem ok__law_command {f : Addr} {fd : FuncData} (F : L2.Fun K "_law_command" "_law_command" s__law_command f fd) (T : TX K mg cl ec fld) (G__law_take : Fn ⟨K, cl, ec, fld⟩ P w mg base 2 "_law_take" 3 [] F__law_take) : FnOk P w K mg base (L2.CX P w) 3 f fd ["row", "spot"] (spF ⟨K, cl, ec, fld⟩ 2 F__law_command) := by
  refine q_ok F sc__law_command rfl rfl fun b q cdv A outer s H E hr => ?_
  have TK := takes_of (X := cxOf (L2.CX P w) P w K mg base ["row", "spot", "names", "one", "asks"] "_law_command" (defScope s__law_command) f cdv A outer s H E) rfl rfl rfl rfl
  exact qs_cons (qs_set (qe_lst (qa_cons (qe_str) (qa_cons (qe_str) (qa_cons (qe_str) (qa_nil))))) (qg_name (i := 2) (sc__law_command).nd rfl (by first | exact Or.inl rfl | exact Or.inr rfl))) (qs_cons (qs_set (qe_ix rfl (qe_loc 2) (qe_call1 G__law_take rfl (hr.mono (by first | exact Nat.le_refl _ | omega)) TK (by rfl) (qa_cons (qe_loc 0) (qa_cons (qe_loc 1) (qa_cons (qe_int) (qa_nil)))) 3 rfl (evLen_cons (evLen_cons (evLen_cons evLen_nil))))) (qg_name (i := 3) (sc__law_command).nd rfl (by first | exact Or.inl rfl | exact Or.inr rfl))) (qs_cons (qs_set (qe_lst (qa_cons (qe_str) (qa_cons (qe_str) (qa_cons (qe_str) (qa_cons (qe_str) (qa_cons (q_add rfl (qe_str) (qe_loc 3)) (qa_cons (q_add rfl (qe_str) (qe_loc 3)) (qa_nil)))))))) (qg_name (i := 4) (sc__law_command).nd rfl (by first | exact Or.inl rfl | exact Or.inr rfl))) (qs_cons (qs_set (q_add rfl (qe_loc 4) (qe_lst (qa_cons (q_add rfl (q_add rfl (qe_str) (qe_loc 3)) (qe_str)) (qa_cons (q_add rfl (q_add rfl (qe_str) (qe_loc 3)) (qe_str)) (qa_cons (q_add rfl (q_add rfl (qe_str) (qe_loc 3)) (qe_str)) (qa_cons (q_add rfl (q_add rfl (qe_str) (qe_loc 3)) (qe_str)) (qa_nil))))))) (qg_name (i := 4) (sc__law_command).nd rfl (by first | exact Or.inl rfl | exact Or.inr rfl))) (qs_cons (qs_set (q_add rfl (qe_loc 4) (qe_lst (qa_cons (qe_str) (qa_cons (qe_str) (qa_nil))))) (qg_name (i := 4) (sc__law_command).nd rfl (by first | exact Or.inl rfl | exact Or.inr rfl))) (qs_cons (qs_set (q_add rfl (qe_loc 4) (qe_lst (qa_cons (qe_str) (qa_cons (q_add rfl (q_add rfl (qe_str) (qe_loc 3)) (qe_str)) (qa_cons (qe_str) (qa_nil)))))) (qg_name (i := 4) (sc__law_command).nd rfl (by first | exact Or.inl rfl | exact Or.inr rfl))) (qs_one (qs_ret (qe_ix rfl (qe_loc 4) (qe_call1 G__law_take rfl (hr.mono (by first | exact Nat.le_refl _ | omega)) TK (by rfl) (qa_cons (qe_loc 0) (qa_cons (qe_loc 1) (qa_cons (qe_int) (qa_nil)))) 3 rfl (evLen_cons (evLen_cons (evLen_cons evLen_nil))))))))))))
abbrev s_Console_init : Stmt := inClass (top 109) 0
def F_Console_init : List W → Sto → Res W := defn 1 (sSeq (sFldW 2 "_races" (eLoc 0) (eDNew)) (sFldW 2 "_commands" (eLoc 0) (eLst (evNil))))
theorem sc_Console_init : FnScope ["self"] ["self"] (defScope s_Console_init) := ⟨rfl, rfl, rfl, by decide +kernel, rfl, by decide +kernel, by decide +kernel⟩
theorem ok_Console_init {f : Addr} {fd : FuncData} (F : L2.Fun K "__init__" "Console.__init__" s_Console_init f fd) (T : TX K mg cl ec fld) : FnOk P w K mg base (L2.CX P w) 1 f fd ["self"] (spF ⟨K, cl, ec, fld⟩ 1 F_Console_init) := by
  refine q_ok F sc_Console_init rfl rfl fun b q cdv A outer s H E hr => ?_
  have TK := takes_of (X := cxOf (L2.CX P w) P w K mg base ["self"] "Console.__init__" (defScope s_Console_init) f cdv A outer s H E) rfl rfl rfl rfl
  exact qs_cons (qs_fld rfl T.c_Console.cl T.na_Console__races (qe_loc 0) (qe_dnew)) (qs_one (qs_fld rfl T.c_Console.cl T.na_Console__commands (qe_loc 0) (qe_lst (qa_nil))))
abbrev s_number_told : Stmt := top 103
def F_number_told : List W → Sto → Res W := defn 1 (sSeq (sIf (bOr (bNot (bTru (eMs0 (fIs Txt.isascii) (eLoc 0)))) (bOr (bNot (bTru (eMs0 (fIs Txt.isdigit) (eLoc 0)))) (bVal (eBin wGt (eB fLen (evCons (eLoc 0) (evNil))) (eLit (.int 4)))))) (sRet (eLit .non)) (sNil)) (sRet (eIf (bAnd (bVal (eBin wEq (eBin wIxT (eLoc 0) (eLit (.int 0))) (eLit (.str "0")))) (bVal (eBin wNe (eLoc 0) (eLit (.str "0"))))) (eLit .non) (eB fIntU (evCons (eLoc 0) (evNil))))))
theorem sc_number_told : FnScope ["word"] ["word"] (defScope s_number_told) := ⟨rfl, rfl, rfl, by decide +kernel, rfl, by decide +kernel, by decide +kernel⟩
theorem ok_number_told {f : Addr} {fd : FuncData} (F : L2.Fun K "number_told" "number_told" s_number_told f fd) (T : TX K mg cl ec fld) : FnOk P w K mg base (L2.CX P w) 1 f fd ["word"] (spF ⟨K, cl, ec, fld⟩ 1 F_number_told) := by
  refine q_ok F sc_number_told rfl rfl fun b q cdv A outer s H E hr => ?_
  have TK := takes_of (X := cxOf (L2.CX P w) P w K mg base ["word"] "number_told" (defScope s_number_told) f cdv A outer s H E) rfl rfl rfl rfl
  exact qs_cons (qs_if (qw_pt (qw_or (qt_not (qt_tru rfl (qe_ms0 PySem.F.slot_str_isascii PySem.F.type_str_isascii mt_isascii mos_is (qe_loc 0)))) (qw_or (qt_not (qt_tru rfl (qe_ms0 PySem.F.slot_str_isdigit PySem.F.type_str_isdigit mt_isdigit mos_is (qe_loc 0)))) (qw_or1 (t_cmp c_gt (qe_blt call_len (ok_len rfl) (by rfl) T.b_len (by decide +kernel) (qa_cons (qe_loc 0) (qa_nil))) (q_gint (by rfl) T.k_MOST_DIGITS)))))) (qs_one (qs_ret (qe_non))) (qs_nil)) (qs_one (qs_ret (qe_if (qw_pt (qw_and (t_cmp (c_eq rfl hr) (qe_ixT (qe_loc 0) (qe_int)) (qe_str)) (qw_and1 (t_cmp (c_ne rfl hr) (qe_loc 0) (qe_str))))) (qe_non) (qe_typ call_intU ok_intU (by rfl) T.b_int (by decide +kernel) (qa_cons (qe_loc 0) (qa_nil))))))
abbrev s_fraction_told : Stmt := top 101
def F_fraction_told : List W → Sto → Res W := defn 6 (sSeq (sSet (tgTup 3 (tgCons (tgName 1) (tgCons (tgName 2) (tgCons (tgName 3) (tgNil))))) (eMs fPartition (eLoc 0) (evCons (eLit (.str "/")) (evNil)))) (sSeq (sSet (tgName 4) (eCall (F_number_told) [] (evCons (eLoc 1) (evNil)))) (sSeq (sSet (tgName 5) (eCall (F_number_told) [] (evCons (eLoc 3) (evNil)))) (sRet (eIf (bOr (bVal (eBin wIsN (eLoc 4) (eLit .non))) (bVal (eBin wIsN (eLoc 5) (eLit .non)))) (eLit .non) (eTup (evCons (eLoc 4) (evCons (eLoc 5) (evNil)))))))))
theorem sc_fraction_told : FnScope ["word", "top_word", "_", "bottom_word", "top", "bottom"] ["word"] (defScope s_fraction_told) := ⟨rfl, rfl, rfl, by decide +kernel, rfl, by decide +kernel, by decide +kernel⟩
theorem ok_fraction_told {f : Addr} {fd : FuncData} (F : L2.Fun K "fraction_told" "fraction_told" s_fraction_told f fd) (T : TX K mg cl ec fld) (G_number_told : Fn ⟨K, cl, ec, fld⟩ P w mg base 1 "number_told" 1 [] F_number_told) : FnOk P w K mg base (L2.CX P w) 2 f fd ["word"] (spF ⟨K, cl, ec, fld⟩ 1 F_fraction_told) := by
  refine q_ok F sc_fraction_told rfl rfl fun b q cdv A outer s H E hr => ?_
  have TK := takes_of (X := cxOf (L2.CX P w) P w K mg base ["word", "top_word", "_", "bottom_word", "top", "bottom"] "fraction_told" (defScope s_fraction_told) f cdv A outer s H E) rfl rfl rfl rfl
  exact qs_cons (qs_set (qe_ms PySem.F.slot_str_partition PySem.F.type_str_partition mt_partition mos_partition (qe_loc 0) (qa_cons (qe_str) (qa_nil))) (qg_tup (n := 3) rfl rfl (qg_cons (qg_name (i := 1) (sc_fraction_told).nd rfl (by first | exact Or.inl rfl | exact Or.inr rfl)) (qg_cons (qg_name (i := 2) (sc_fraction_told).nd rfl (by first | exact Or.inl rfl | exact Or.inr rfl)) (qg_cons (qg_name (i := 3) (sc_fraction_told).nd rfl (by first | exact Or.inl rfl | exact Or.inr rfl)) (qg_nil)))))) (qs_cons (qs_set (qe_call1 G_number_told rfl (hr.mono (by first | exact Nat.le_refl _ | omega)) TK (by rfl) (qa_cons (qe_loc 1) (qa_nil)) 1 rfl (evLen_cons evLen_nil)) (qg_name (i := 4) (sc_fraction_told).nd rfl (by first | exact Or.inl rfl | exact Or.inr rfl))) (qs_cons (qs_set (qe_call1 G_number_told rfl (hr.mono (by first | exact Nat.le_refl _ | omega)) TK (by rfl) (qa_cons (qe_loc 3) (qa_nil)) 1 rfl (evLen_cons evLen_nil)) (qg_name (i := 5) (sc_fraction_told).nd rfl (by first | exact Or.inl rfl | exact Or.inr rfl))) (qs_one (qs_ret (qe_if (qw_pt (qw_or (t_cmp c_is (qe_loc 4) (qe_non)) (qw_or1 (t_cmp c_is (qe_loc 5) (qe_non))))) (qe_non) (qe_tup (qa_cons (qe_loc 4) (qa_cons (qe_loc 5) (qa_nil)))))))))
abbrev s_fraction : Stmt := top 16
def F_fraction : List W → Sto → Res W := defn 3 (sSeq (sSet (tgName 2) (eB fGcd (evCons (eLoc 0) (evCons (eLoc 1) (evNil))))) (sRet (eTup (evCons (eBin wDiv (eLoc 0) (eLoc 2)) (evCons (eBin wDiv (eLoc 1) (eLoc 2)) (evNil))))))
theorem sc_fraction : FnScope ["top", "bottom", "common"] ["top", "bottom"] (defScope s_fraction) := ⟨rfl, rfl, rfl, by decide +kernel, rfl, by decide +kernel, by decide +kernel⟩
theorem ok_fraction {f : Addr} {fd : FuncData} (F : L2.Fun K "fraction" "fraction" s_fraction f fd) (T : TX K mg cl ec fld) : FnOk P w K mg base (L2.CX P w) 1 f fd ["top", "bottom"] (spF ⟨K, cl, ec, fld⟩ 2 F_fraction) := by
  refine q_ok F sc_fraction rfl rfl fun b q cdv A outer s H E hr => ?_
  have TK := takes_of (X := cxOf (L2.CX P w) P w K mg base ["top", "bottom", "common"] "fraction" (defScope s_fraction) f cdv A outer s H E) rfl rfl rfl rfl
  exact qs_cons (qs_set (qe_bfun cr_gcd ok_gcd (by rfl) T.g_gcd (qa_cons (qe_loc 0) (qa_cons (qe_loc 1) (qa_nil)))) (qg_name (i := 2) (sc_fraction).nd rfl (by first | exact Or.inl rfl | exact Or.inr rfl))) (qs_one (qs_ret (qe_tup (qa_cons (q_div (qe_loc 0) (qe_loc 2)) (qa_cons (q_div (qe_loc 1) (qe_loc 2)) (qa_nil))))))
abbrev s__number_told : Stmt := top 116
def F__number_told : List W → Sto → Res W := defn 2 (sSeq (sSet (tgName 1) (eCall (F_fraction_told) [] (evCons (eLoc 0) (evNil)))) (sRet (eIf (bOr (bVal (eBin wIsN (eLoc 1) (eLit .non))) (bVal (eBin wEq (eBin wIx (eLoc 1) (eLit (.int 1))) (eLit (.int 0))))) (eLit .non) (eCall (F_fraction) [] (evCons (eBin wIx (eLoc 1) (eLit (.int 0))) (evCons (eBin wIx (eLoc 1) (eLit (.int 1))) (evNil)))))))
theorem sc__number_told : FnScope ["word", "told"] ["word"] (defScope s__number_told) := ⟨rfl, rfl, rfl, by decide +kernel, rfl, by decide +kernel, by decide +kernel⟩
theorem ok__number_told {f : Addr} {fd : FuncData} (F : L2.Fun K "_number_told" "_number_told" s__number_told f fd) (T : TX K mg cl ec fld) (G_fraction_told : Fn ⟨K, cl, ec, fld⟩ P w mg base 2 "fraction_told" 1 [] F_fraction_told) (G_fraction : Fn ⟨K, cl, ec, fld⟩ P w mg base 1 "fraction" 2 [] F_fraction) : FnOk P w K mg base (L2.CX P w) 3 f fd ["word"] (spF ⟨K, cl, ec, fld⟩ 1 F__number_told) := by
  refine q_ok F sc__number_told rfl rfl fun b q cdv A outer s H E hr => ?_
  have TK := takes_of (X := cxOf (L2.CX P w) P w K mg base ["word", "told"] "_number_told" (defScope s__number_told) f cdv A outer s H E) rfl rfl rfl rfl
  exact qs_cons (qs_set (qe_call1 G_fraction_told rfl (hr.mono (by first | exact Nat.le_refl _ | omega)) TK (by rfl) (qa_cons (qe_loc 0) (qa_nil)) 1 rfl (evLen_cons evLen_nil)) (qg_name (i := 1) (sc__number_told).nd rfl (by first | exact Or.inl rfl | exact Or.inr rfl))) (qs_one (qs_ret (qe_if (qw_pt (qw_or (t_cmp c_is (qe_loc 1) (qe_non)) (qw_or1 (t_cmp (c_eq rfl hr) (qe_ix rfl (qe_loc 1) (qe_int)) (qe_int))))) (qe_non) (qe_call1 G_fraction rfl (hr.mono (by first | exact Nat.le_refl _ | omega)) TK (by rfl) (qa_cons (qe_ix rfl (qe_loc 1) (qe_int)) (qa_cons (qe_ix rfl (qe_loc 1) (qe_int)) (qa_nil))) 2 rfl (evLen_cons (evLen_cons evLen_nil))))))
abbrev s__row_told : Stmt := top 115
def F__row_told : List W → Sto → Res W := defn 4 (sSeq (sSet (tgName 1) (eLst (evNil))) (sSeq (sFor 1000000 (vSeq (eMs fSplit (eLoc 0) (evCons (eLit (.str ",")) (evNil)))) (tgName 2) (sSeq (sSet (tgName 3) (eCall (F__number_told) [] (evCons (eLoc 2) (evNil)))) (sSeq (sIf (bAnd (bVal (eBin wIsN (eLoc 3) (eLit .non))) (bVal (eBin wNe (eLoc 2) (eLit (.str "-"))))) (sRet (eLit .non)) (sNil)) (sDrop (eMt fAppend (eLoc 1) (evCons (eLoc 3) (evNil))))))) (sRet (eB fTuple (evCons (eLoc 1) (evNil))))))
theorem sc__row_told : FnScope ["word", "row", "part", "paid"] ["word"] (defScope s__row_told) := ⟨rfl, rfl, rfl, by decide +kernel, rfl, by decide +kernel, by decide +kernel⟩
theorem ok__row_told {f : Addr} {fd : FuncData} (F : L2.Fun K "_row_told" "_row_told" s__row_told f fd) (T : TX K mg cl ec fld) (G__number_told : Fn ⟨K, cl, ec, fld⟩ P w mg base 3 "_number_told" 1 [] F__number_told) : FnOk P w K mg base (L2.CX P w) 4 f fd ["word"] (spF ⟨K, cl, ec, fld⟩ 1 F__row_told) := by
  refine q_ok F sc__row_told rfl rfl fun b q cdv A outer s H E hr => ?_
  have TK := takes_of (X := cxOf (L2.CX P w) P w K mg base ["word", "row", "part", "paid"] "_row_told" (defScope s__row_told) f cdv A outer s H E) rfl rfl rfl rfl
  exact qs_cons (qs_set (qe_lst (qa_nil)) (qg_name (i := 1) (sc__row_told).nd rfl (by first | exact Or.inl rfl | exact Or.inr rfl))) (qs_cons (qs_for (n := 1000000) (passes_of (K := _) rfl) rfl (qi_seq rfl (qe_ms PySem.F.slot_str_split PySem.F.type_str_split mt_split mos_split (qe_loc 0) (qa_cons (qe_str) (qa_nil)))) (qg_name (i := 2) (sc__row_told).nd rfl (by first | exact Or.inl rfl | exact Or.inr rfl)) (qs_cons (qs_set (qe_call1 G__number_told rfl (hr.mono (by first | exact Nat.le_refl _ | omega)) TK (by rfl) (qa_cons (qe_loc 2) (qa_nil)) 1 rfl (evLen_cons evLen_nil)) (qg_name (i := 3) (sc__row_told).nd rfl (by first | exact Or.inl rfl | exact Or.inr rfl))) (qs_cons (qs_if (qw_pt (qw_and (t_cmp c_is (qe_loc 3) (qe_non)) (qw_and1 (t_cmp (c_ne rfl hr) (qe_loc 2) (qe_str))))) (qs_one (qs_ret (qe_non))) (qs_nil)) (qs_one (qs_drop (qe_mt rfl PySem.F.slot_list_append PySem.F.type_list_append mt_append mok_append (qe_loc 1) (qa_cons (qe_loc 3) (qa_nil)))))))) (qs_one (qs_ret (qe_typ call_tuple_of (ok_tuple rfl) (by rfl) T.b_tuple (by decide +kernel) (qa_cons (qe_loc 1) (qa_nil))))))
abbrev s__pool_told : Stmt := top 114
def F__pool_told : List W → Sto → Res W := defn 4 (sSeq (sIf (bVal (eBin wNe (eB fLen (evCons (eLoc 0) (evNil))) (eLit (.int 3)))) (sRet (eLit .non)) (sNil)) (sSeq (sPar3 1 2 3 (evCons (eCall (F__number_told) [] (evCons (eBin wIx (eLoc 0) (eLit (.int 0))) (evNil))) (evCons (eCall (F__number_told) [] (evCons (eBin wIx (eLoc 0) (eLit (.int 1))) (evNil))) (evCons (eCall (F__row_told) [] (evCons (eBin wIx (eLoc 0) (eLit (.int 2))) (evNil))) (evNil))))) (sRet (eIf (bOr (bVal (eBin wIsN (eLoc 1) (eLit .non))) (bOr (bVal (eBin wIsN (eLoc 2) (eLit .non))) (bVal (eBin wIsN (eLoc 3) (eLit .non))))) (eLit .non) (eTup (evCons (eTup (evCons (eLoc 1) (evCons (eLoc 2) (evCons (eB fLen (evCons (eLoc 3) (evNil))) (evNil))))) (evCons (eLoc 3) (evNil))))))))
theorem sc__pool_told : FnScope ["words", "kept", "step", "row"] ["words"] (defScope s__pool_told) := ⟨rfl, rfl, rfl, by decide +kernel, rfl, by decide +kernel, by decide +kernel⟩
theorem ok__pool_told {f : Addr} {fd : FuncData} (F : L2.Fun K "_pool_told" "_pool_told" s__pool_told f fd) (T : TX K mg cl ec fld) (G__number_told : Fn ⟨K, cl, ec, fld⟩ P w mg base 3 "_number_told" 1 [] F__number_told) (G__row_told : Fn ⟨K, cl, ec, fld⟩ P w mg base 4 "_row_told" 1 [] F__row_told) : FnOk P w K mg base (L2.CX P w) 5 f fd ["words"] (spF ⟨K, cl, ec, fld⟩ 1 F__pool_told) := by
  refine q_ok F sc__pool_told rfl rfl fun b q cdv A outer s H E hr => ?_
  have TK := takes_of (X := cxOf (L2.CX P w) P w K mg base ["words", "kept", "step", "row"] "_pool_told" (defScope s__pool_told) f cdv A outer s H E) rfl rfl rfl rfl
  exact qs_cons (qs_if (t_cmp (c_ne rfl hr) (qe_blt call_len (ok_len rfl) (by rfl) T.b_len (by decide +kernel) (qa_cons (qe_loc 0) (qa_nil))) (qe_int)) (qs_one (qs_ret (qe_non))) (qs_nil)) (qs_cons (qs_par3 rfl (sc__pool_told).nd rfl rfl rfl (by decide) (by decide) (by decide) rfl rfl rfl (qa_cons (qe_call1 G__number_told rfl (hr.mono (by first | exact Nat.le_refl _ | omega)) TK (by rfl) (qa_cons (qe_ix rfl (qe_loc 0) (qe_int)) (qa_nil)) 1 rfl (evLen_cons evLen_nil)) (qa_cons (qe_call1 G__number_told rfl (hr.mono (by first | exact Nat.le_refl _ | omega)) TK (by rfl) (qa_cons (qe_ix rfl (qe_loc 0) (qe_int)) (qa_nil)) 1 rfl (evLen_cons evLen_nil)) (qa_cons (qe_call1 G__row_told rfl (hr.mono (by first | exact Nat.le_refl _ | omega)) TK (by rfl) (qa_cons (qe_ix rfl (qe_loc 0) (qe_int)) (qa_nil)) 1 rfl (evLen_cons evLen_nil)) (qa_nil))))) (qs_one (qs_ret (qe_if (qw_pt (qw_or (t_cmp c_is (qe_loc 1) (qe_non)) (qw_or (t_cmp c_is (qe_loc 2) (qe_non)) (qw_or1 (t_cmp c_is (qe_loc 3) (qe_non)))))) (qe_non) (qe_tup (qa_cons (qe_tup (qa_cons (qe_loc 1) (qa_cons (qe_loc 2) (qa_cons (qe_blt call_len (ok_len rfl) (by rfl) T.b_len (by decide +kernel) (qa_cons (qe_loc 3) (qa_nil))) (qa_nil))))) (qa_cons (qe_loc 3) (qa_nil))))))))
abbrev s__is_name : Stmt := top 111
def F__is_name : List W → Sto → Res W := defn 1 (sRet (eAnd (eMs0 (fIs Txt.isascii) (eLoc 0)) (eAnd (eMs0 (fIs Txt.isalpha) (eLoc 0)) (eAnd (eMs0 (fIs Txt.islower) (eLoc 0)) (eBin wLe (eB fLen (evCons (eLoc 0) (evNil))) (eLit (.int 12)))))))
theorem sc__is_name : FnScope ["word"] ["word"] (defScope s__is_name) := ⟨rfl, rfl, rfl, by decide +kernel, rfl, by decide +kernel, by decide +kernel⟩
theorem ok__is_name {f : Addr} {fd : FuncData} (F : L2.Fun K "_is_name" "_is_name" s__is_name f fd) (T : TX K mg cl ec fld) : FnOk P w K mg base (L2.CX P w) 1 f fd ["word"] (spF ⟨K, cl, ec, fld⟩ 1 F__is_name) := by
  refine q_ok F sc__is_name rfl rfl fun b q cdv A outer s H E hr => ?_
  have TK := takes_of (X := cxOf (L2.CX P w) P w K mg base ["word"] "_is_name" (defScope s__is_name) f cdv A outer s H E) rfl rfl rfl rfl
  exact qs_one (qs_ret (qe_and (qe_ms0 PySem.F.slot_str_isascii PySem.F.type_str_isascii mt_isascii mos_is (qe_loc 0)) (qe_and (qe_ms0 PySem.F.slot_str_isalpha PySem.F.type_str_isalpha mt_isalpha mos_is (qe_loc 0)) (qe_and (qe_ms0 PySem.F.slot_str_islower PySem.F.type_str_islower mt_islower mos_is (qe_loc 0)) (qe_one (q_cmp c_le (qe_blt call_len (ok_len rfl) (by rfl) T.b_len (by decide +kernel) (qa_cons (qe_loc 0) (qa_nil))) (q_gint (by rfl) T.k_MOST_LETTERS)))))))
abbrev s_numbers_told : Stmt := top 102
def F_numbers_told : List W → Sto → Res W := defn 3 (sSeq (sSet (tgName 1) (eB fTuple (evCons (eComp 1000000 [2] (vSeq (eMs fSplit (eLoc 0) (evCons (eLit (.str ",")) (evNil)))) (tgName 2) (bYes) (eCall (F_number_told) [] (evCons (eLoc 2) (evNil)))) (evNil)))) (sRet (eIf (bVal (eBin wIn (eLit .non) (eLoc 1))) (eLit .non) (eLoc 1))))
theorem sc_numbers_told : FnScope ["word", "numbers", "part"] ["word"] (defScope s_numbers_told) := ⟨rfl, rfl, rfl, by decide +kernel, rfl, by decide +kernel, by decide +kernel⟩
theorem ok_numbers_told {f : Addr} {fd : FuncData} (F : L2.Fun K "numbers_told" "numbers_told" s_numbers_told f fd) (T : TX K mg cl ec fld) (G_number_told : Fn ⟨K, cl, ec, fld⟩ P w mg base 1 "number_told" 1 [] F_number_told) : FnOk P w K mg base (L2.CX P w) 2 f fd ["word"] (spF ⟨K, cl, ec, fld⟩ 1 F_numbers_told) := by
  refine q_ok F sc_numbers_told rfl rfl fun b q cdv A outer s H E hr => ?_
  have TK := takes_of (X := cxOf (L2.CX P w) P w K mg base ["word", "numbers", "part"] "numbers_told" (defScope s_numbers_told) f cdv A outer s H E) rfl rfl rfl rfl
  exact qs_cons (qs_set (qe_typ call_tuple_of (ok_tuple rfl) (by rfl) T.b_tuple (by decide +kernel) (qa_cons (qe_comp (own := [("part", 2)]) (n := 1000000) rfl (sc_numbers_told).nd (qi_seq rfl (qe_ms PySem.F.slot_str_split PySem.F.type_str_split mt_split mos_split (qe_loc 0) (qa_cons (qe_str) (qa_nil)))) (by change BlkOk ["word", "numbers", "part"] (defScope s_numbers_told) _ _; exact blkOk_by (by decide +kernel)) (fun _ _ _ _ _ => pg_name (i := 2) (sc_numbers_told).nd rfl (by first | exact Or.inl rfl | exact Or.inr rfl)) (ct_name (by decide)) (fun _ _ _ _ _ => qc_nil) (fun _ _ _ _ _ => qe_call1 G_number_told rfl (hr.mono (by first | exact Nat.le_refl _ | omega)) (takesX (CX := L2.CX P w)) (by rfl) (qa_cons (qe_loc 2) (qa_nil)) 1 rfl (evLen_cons evLen_nil))) (qa_nil))) (qg_name (i := 1) (sc_numbers_told).nd rfl (by first | exact Or.inl rfl | exact Or.inr rfl))) (qs_one (qs_ret (qe_if (t_cmp (c_in rfl hr) (qe_non) (qe_loc 1)) (qe_non) (qe_loc 1))))
abbrev s_race_told : Stmt := top 98
def F_race_told : List W → Sto → Res W := defn 4 (sSeq (sIf (bOr (bVal (eBin wNe (eB fLen (evCons (eLoc 0) (evNil))) (eLit (.int 6)))) (bOr (bVal (eBin wNotIn (eBin wIx (eLoc 0) (eLit (.int 1))) (eTup (evCons (eLit (.str "level")) (evCons (eLit (.str "unlike")) (evNil)))))) (bOr (bVal (eBin wNe (eBin wIx (eLoc 0) (eLit (.int 2))) (eLit (.str "absent")))) (bVal (eBin wNe (eBin wIx (eLoc 0) (eLit (.int 4))) (eLit (.str "cuts"))))))) (sRet (eLit .non)) (sNil)) (sSeq (sSet (tgName 1) (eCall (F_number_told) [] (evCons (eBin wIx (eLoc 0) (eLit (.int 0))) (evNil)))) (sSeq (sSet (tgName 2) (eIf (bVal (eBin wEq (eBin wIx (eLoc 0) (eLit (.int 3))) (eLit (.str "-")))) (eTup (evNil)) (eCall (F_numbers_told) [] (evCons (eBin wIx (eLoc 0) (eLit (.int 3))) (evNil))))) (sSeq (sSet (tgName 3) (eCall (F_numbers_told) [] (evCons (eBin wIx (eLoc 0) (eLit (.int 5))) (evNil)))) (sSeq (sIf (bOr (bVal (eBin wIsN (eLoc 1) (eLit .non))) (bOr (bVal (eBin wIsN (eLoc 2) (eLit .non))) (bVal (eBin wIsN (eLoc 3) (eLit .non))))) (sRet (eLit .non)) (sNil)) (sRet (eTup (evCons (eLoc 1) (evCons (eBin wEq (eBin wIx (eLoc 0) (eLit (.int 1))) (eLit (.str "level"))) (evCons (eLoc 2) (evCons (eLoc 3) (evNil))))))))))))
theorem sc_race_told : FnScope ["words", "runners", "absent", "cuts"] ["words"] (defScope s_race_told) := ⟨rfl, rfl, rfl, by decide +kernel, rfl, by decide +kernel, by decide +kernel⟩
theorem ok_race_told {f : Addr} {fd : FuncData} (F : L2.Fun K "race_told" "race_told" s_race_told f fd) (T : TX K mg cl ec fld) (G_number_told : Fn ⟨K, cl, ec, fld⟩ P w mg base 1 "number_told" 1 [] F_number_told) (G_numbers_told : Fn ⟨K, cl, ec, fld⟩ P w mg base 2 "numbers_told" 1 [] F_numbers_told) : FnOk P w K mg base (L2.CX P w) 3 f fd ["words"] (spF ⟨K, cl, ec, fld⟩ 1 F_race_told) := by
  refine q_ok F sc_race_told rfl rfl fun b q cdv A outer s H E hr => ?_
  have TK := takes_of (X := cxOf (L2.CX P w) P w K mg base ["words", "runners", "absent", "cuts"] "race_told" (defScope s_race_told) f cdv A outer s H E) rfl rfl rfl rfl
  exact qs_cons (qs_if (qw_pt (qw_or (t_cmp (c_ne rfl hr) (qe_blt call_len (ok_len rfl) (by rfl) T.b_len (by decide +kernel) (qa_cons (qe_loc 0) (qa_nil))) (qe_int)) (qw_or (t_cmp (c_notIn rfl hr) (qe_ix rfl (qe_loc 0) (qe_int)) (qe_tup (qa_cons (qe_str) (qa_cons (qe_str) (qa_nil))))) (qw_or (t_cmp (c_ne rfl hr) (qe_ix rfl (qe_loc 0) (qe_int)) (qe_str)) (qw_or1 (t_cmp (c_ne rfl hr) (qe_ix rfl (qe_loc 0) (qe_int)) (qe_str))))))) (qs_one (qs_ret (qe_non))) (qs_nil)) (qs_cons (qs_set (qe_call1 G_number_told rfl (hr.mono (by first | exact Nat.le_refl _ | omega)) TK (by rfl) (qa_cons (qe_ix rfl (qe_loc 0) (qe_int)) (qa_nil)) 1 rfl (evLen_cons evLen_nil)) (qg_name (i := 1) (sc_race_told).nd rfl (by first | exact Or.inl rfl | exact Or.inr rfl))) (qs_cons (qs_set (qe_if (t_cmp (c_eq rfl hr) (qe_ix rfl (qe_loc 0) (qe_int)) (qe_str)) (qe_tup (qa_nil)) (qe_call1 G_numbers_told rfl (hr.mono (by first | exact Nat.le_refl _ | omega)) TK (by rfl) (qa_cons (qe_ix rfl (qe_loc 0) (qe_int)) (qa_nil)) 1 rfl (evLen_cons evLen_nil))) (qg_name (i := 2) (sc_race_told).nd rfl (by first | exact Or.inl rfl | exact Or.inr rfl))) (qs_cons (qs_set (qe_call1 G_numbers_told rfl (hr.mono (by first | exact Nat.le_refl _ | omega)) TK (by rfl) (qa_cons (qe_ix rfl (qe_loc 0) (qe_int)) (qa_nil)) 1 rfl (evLen_cons evLen_nil)) (qg_name (i := 3) (sc_race_told).nd rfl (by first | exact Or.inl rfl | exact Or.inr rfl))) (qs_cons (qs_if (qw_pt (qw_or (t_cmp c_is (qe_loc 1) (qe_non)) (qw_or (t_cmp c_is (qe_loc 2) (qe_non)) (qw_or1 (t_cmp c_is (qe_loc 3) (qe_non)))))) (qs_one (qs_ret (qe_non))) (qs_nil)) (qs_one (qs_ret (qe_tup (qa_cons (qe_loc 1) (qa_cons (q_cmp (c_eq rfl hr) (qe_ix rfl (qe_loc 0) (qe_int)) (qe_str)) (qa_cons (qe_loc 2) (qa_cons (qe_loc 3) (qa_nil))))))))))))
abbrev s_bet_told : Stmt := top 100
def F_bet_told : List W → Sto → Res W := defn 6 (sSeq (sSet (tgTup 3 (tgCons (tgName 1) (tgCons (tgName 2) (tgCons (tgName 3) (tgNil))))) (eMs fPartition (eLoc 0) (evCons (eLit (.str ":")) (evNil)))) (sSeq (sSet (tgName 4) (eCall (F_numbers_told) [] (evCons (eLoc 3) (evNil)))) (sSeq (sIf (bVal (eBin wIsN (eLoc 4) (eLit .non))) (sRet (eLit .non)) (sNil)) (sSeq (sIf (bVal (eBin wEq (eLoc 1) (eLit (.str "row")))) (sRet (eTup (evCons (eLit (.str "row")) (evCons (eLoc 4) (evNil))))) (sNil)) (sSeq (sSet (tgName 5) (eCall (F_number_told) [] (evCons (eSlT (eLoc 1) (poSome (eLit (.int 3))) (poNone)) (evNil)))) (sSeq (sIf (bOr (bNot (bTru (eMs fStartswith (eLoc 1) (evCons (eLit (.str "top")) (evNil))))) (bVal (eBin wIsN (eLoc 5) (eLit .non)))) (sRet (eLit .non)) (sNil)) (sRet (eTup (evCons (eLit (.str "top")) (evCons (eLoc 5) (evCons (eLoc 4) (evNil))))))))))))
theorem sc_bet_told : FnScope ["word", "kind", "_", "runners", "chosen", "places"] ["word"] (defScope s_bet_told) := ⟨rfl, rfl, rfl, by decide +kernel, rfl, by decide +kernel, by decide +kernel⟩
theorem ok_bet_told {f : Addr} {fd : FuncData} (F : L2.Fun K "bet_told" "bet_told" s_bet_told f fd) (T : TX K mg cl ec fld) (G_numbers_told : Fn ⟨K, cl, ec, fld⟩ P w mg base 2 "numbers_told" 1 [] F_numbers_told) (G_number_told : Fn ⟨K, cl, ec, fld⟩ P w mg base 1 "number_told" 1 [] F_number_told) : FnOk P w K mg base (L2.CX P w) 3 f fd ["word"] (spF ⟨K, cl, ec, fld⟩ 1 F_bet_told) := by
  refine q_ok F sc_bet_told rfl rfl fun b q cdv A outer s H E hr => ?_
  have TK := takes_of (X := cxOf (L2.CX P w) P w K mg base ["word", "kind", "_", "runners", "chosen", "places"] "bet_told" (defScope s_bet_told) f cdv A outer s H E) rfl rfl rfl rfl
  exact qs_cons (qs_set (qe_ms PySem.F.slot_str_partition PySem.F.type_str_partition mt_partition mos_partition (qe_loc 0) (qa_cons (qe_str) (qa_nil))) (qg_tup (n := 3) rfl rfl (qg_cons (qg_name (i := 1) (sc_bet_told).nd rfl (by first | exact Or.inl rfl | exact Or.inr rfl)) (qg_cons (qg_name (i := 2) (sc_bet_told).nd rfl (by first | exact Or.inl rfl | exact Or.inr rfl)) (qg_cons (qg_name (i := 3) (sc_bet_told).nd rfl (by first | exact Or.inl rfl | exact Or.inr rfl)) (qg_nil)))))) (qs_cons (qs_set (qe_call1 G_numbers_told rfl (hr.mono (by first | exact Nat.le_refl _ | omega)) TK (by rfl) (qa_cons (qe_loc 3) (qa_nil)) 1 rfl (evLen_cons evLen_nil)) (qg_name (i := 4) (sc_bet_told).nd rfl (by first | exact Or.inl rfl | exact Or.inr rfl))) (qs_cons (qs_if (t_cmp c_is (qe_loc 4) (qe_non)) (qs_one (qs_ret (qe_non))) (qs_nil)) (qs_cons (qs_if (t_cmp (c_eq rfl hr) (qe_loc 1) (qe_str)) (qs_one (qs_ret (qe_tup (qa_cons (qe_str) (qa_cons (qe_loc 4) (qa_nil)))))) (qs_nil)) (qs_cons (qs_set (qe_call1 G_number_told rfl (hr.mono (by first | exact Nat.le_refl _ | omega)) TK (by rfl) (qa_cons (qe_slT (qe_loc 1) (qo_some (qe_int)) (qo_none)) (qa_nil)) 1 rfl (evLen_cons evLen_nil)) (qg_name (i := 5) (sc_bet_told).nd rfl (by first | exact Or.inl rfl | exact Or.inr rfl))) (qs_cons (qs_if (qw_pt (qw_or (qt_not (qt_tru rfl (qe_ms PySem.F.slot_str_startswith PySem.F.type_str_startswith mt_startswith mos_startswith (qe_loc 1) (qa_cons (qe_str) (qa_nil))))) (qw_or1 (t_cmp c_is (qe_loc 5) (qe_non))))) (qs_one (qs_ret (qe_non))) (qs_nil)) (qs_one (qs_ret (qe_tup (qa_cons (qe_str) (qa_cons (qe_loc 5) (qa_cons (qe_loc 4) (qa_nil))))))))))))
abbrev s__offer_told : Stmt := top 104
def F__offer_told : List W → Sto → Res W := defn 6 (sSeq (sSet (tgTup 3 (tgCons (tgName 1) (tgCons (tgName 2) (tgCons (tgName 3) (tgNil))))) (eMs fPartition (eLoc 0) (evCons (eLit (.str "@")) (evNil)))) (sSeq (sSet (tgName 4) (eCall (F_bet_told) [] (evCons (eLoc 1) (evNil)))) (sSeq (sSet (tgName 5) (eCall (F_fraction_told) [] (evCons (eSlT (eLoc 3) (poNone) (poSome (eU wNeg (eLit (.int 1))))) (evNil)))) (sSeq (sIf (bOr (bVal (eBin wIsN (eLoc 4) (eLit .non))) (bOr (bVal (eBin wIsN (eLoc 5) (eLit .non))) (bVal (eBin wNotIn (eBin wIxT (eLoc 3) (eU wNeg (eLit (.int 1)))) (eTup (evCons (eLit (.str "+")) (evCons (eLit (.str "-")) (evNil)))))))) (sRet (eLit .non)) (sNil)) (sRet (eTup (evCons (eLoc 4) (evCons (eLoc 5) (evCons (eIf (bVal (eBin wEq (eBin wIxT (eLoc 3) (eU wNeg (eLit (.int 1)))) (eLit (.str "+")))) (eLit (.str "for")) (eLit (.str "against"))) (evNil))))))))))
theorem sc__offer_told : FnScope ["word", "bet_word", "_", "rest", "bet", "odds"] ["word"] (defScope s__offer_told) := ⟨rfl, rfl, rfl, by decide +kernel, rfl, by decide +kernel, by decide +kernel⟩
theorem ok__offer_told {f : Addr} {fd : FuncData} (F : L2.Fun K "_offer_told" "_offer_told" s__offer_told f fd) (T : TX K mg cl ec fld) (G_bet_told : Fn ⟨K, cl, ec, fld⟩ P w mg base 3 "bet_told" 1 [] F_bet_told) (G_fraction_told : Fn ⟨K, cl, ec, fld⟩ P w mg base 2 "fraction_told" 1 [] F_fraction_told) : FnOk P w K mg base (L2.CX P w) 4 f fd ["word"] (spF ⟨K, cl, ec, fld⟩ 1 F__offer_told) := by
  refine q_ok F sc__offer_told rfl rfl fun b q cdv A outer s H E hr => ?_
  have TK := takes_of (X := cxOf (L2.CX P w) P w K mg base ["word", "bet_word", "_", "rest", "bet", "odds"] "_offer_told" (defScope s__offer_told) f cdv A outer s H E) rfl rfl rfl rfl
  exact qs_cons (qs_set (qe_ms PySem.F.slot_str_partition PySem.F.type_str_partition mt_partition mos_partition (qe_loc 0) (qa_cons (qe_str) (qa_nil))) (qg_tup (n := 3) rfl rfl (qg_cons (qg_name (i := 1) (sc__offer_told).nd rfl (by first | exact Or.inl rfl | exact Or.inr rfl)) (qg_cons (qg_name (i := 2) (sc__offer_told).nd rfl (by first | exact Or.inl rfl | exact Or.inr rfl)) (qg_cons (qg_name (i := 3) (sc__offer_told).nd rfl (by first | exact Or.inl rfl | exact Or.inr rfl)) (qg_nil)))))) (qs_cons (qs_set (qe_call1 G_bet_told rfl (hr.mono (by first | exact Nat.le_refl _ | omega)) TK (by rfl) (qa_cons (qe_loc 1) (qa_nil)) 1 rfl (evLen_cons evLen_nil)) (qg_name (i := 4) (sc__offer_told).nd rfl (by first | exact Or.inl rfl | exact Or.inr rfl))) (qs_cons (qs_set (qe_call1 G_fraction_told rfl (hr.mono (by first | exact Nat.le_refl _ | omega)) TK (by rfl) (qa_cons (qe_slT (qe_loc 3) (qo_none) (qo_some (qe_neg (qe_int)))) (qa_nil)) 1 rfl (evLen_cons evLen_nil)) (qg_name (i := 5) (sc__offer_told).nd rfl (by first | exact Or.inl rfl | exact Or.inr rfl))) (qs_cons (qs_if (qw_pt (qw_or (t_cmp c_is (qe_loc 4) (qe_non)) (qw_or (t_cmp c_is (qe_loc 5) (qe_non)) (qw_or1 (t_cmp (c_notIn rfl hr) (qe_ixT (qe_loc 3) (qe_neg (qe_int))) (qe_tup (qa_cons (qe_str) (qa_cons (qe_str) (qa_nil))))))))) (qs_one (qs_ret (qe_non))) (qs_nil)) (qs_one (qs_ret (qe_tup (qa_cons (qe_loc 4) (qa_cons (qe_loc 5) (qa_cons (qe_if (t_cmp (c_eq rfl hr) (qe_ixT (qe_loc 3) (qe_neg (qe_int))) (qe_str)) (qe_str) (qe_str)) (qa_nil))))))))))
abbrev s_offers_told : Stmt := top 99
def F_offers_told : List W → Sto → Res W := defn 3 (sSeq (sSet (tgName 1) (eB fTuple (evCons (eComp 1000000 [2] (vSeq (eLoc 0)) (tgName 2) (bYes) (eCall (F__offer_told) [] (evCons (eLoc 2) (evNil)))) (evNil)))) (sRet (eIf (bVal (eBin wIn (eLit .non) (eLoc 1))) (eLit .non) (eLoc 1))))
theorem sc_offers_told : FnScope ["words", "offers", "word"] ["words"] (defScope s_offers_told) := ⟨rfl, rfl, rfl, by decide +kernel, rfl, by decide +kernel, by decide +kernel⟩
theorem ok_offers_told {f : Addr} {fd : FuncData} (F : L2.Fun K "offers_told" "offers_told" s_offers_told f fd) (T : TX K mg cl ec fld) (G__offer_told : Fn ⟨K, cl, ec, fld⟩ P w mg base 4 "_offer_told" 1 [] F__offer_told) : FnOk P w K mg base (L2.CX P w) 5 f fd ["words"] (spF ⟨K, cl, ec, fld⟩ 1 F_offers_told) := by
  refine q_ok F sc_offers_told rfl rfl fun b q cdv A outer s H E hr => ?_
  have TK := takes_of (X := cxOf (L2.CX P w) P w K mg base ["words", "offers", "word"] "offers_told" (defScope s_offers_told) f cdv A outer s H E) rfl rfl rfl rfl
  exact qs_cons (qs_set (qe_typ call_tuple_of (ok_tuple rfl) (by rfl) T.b_tuple (by decide +kernel) (qa_cons (qe_comp (own := [("word", 2)]) (n := 1000000) rfl (sc_offers_told).nd (qi_seq rfl (qe_loc 0)) (by change BlkOk ["words", "offers", "word"] (defScope s_offers_told) _ _; exact blkOk_by (by decide +kernel)) (fun _ _ _ _ _ => pg_name (i := 2) (sc_offers_told).nd rfl (by first | exact Or.inl rfl | exact Or.inr rfl)) (ct_name (by decide)) (fun _ _ _ _ _ => qc_nil) (fun _ _ _ _ _ => qe_call1 G__offer_told rfl (hr.mono (by first | exact Nat.le_refl _ | omega)) (takesX (CX := L2.CX P w)) (by rfl) (qa_cons (qe_loc 2) (qa_nil)) 1 rfl (evLen_cons evLen_nil))) (qa_nil))) (qg_name (i := 1) (sc_offers_told).nd rfl (by first | exact Or.inl rfl | exact Or.inr rfl))) (qs_one (qs_ret (qe_if (t_cmp (c_in rfl hr) (qe_non) (qe_loc 1)) (qe_non) (qe_loc 1))))
abbrev s__bet_and_offers_told : Stmt := top 113
def F__bet_and_offers_told : List W → Sto → Res W := defn 3 (sSeq (sIf (bVal (eBin wEq (eB fLen (evCons (eLoc 0) (evNil))) (eLit (.int 0)))) (sRet (eLit .non)) (sNil)) (sSeq (sSet (tgName 1) (eCall (F_bet_told) [] (evCons (eBin wIx (eLoc 0) (eLit (.int 0))) (evNil)))) (sSeq (sSet (tgName 2) (eCall (F_offers_told) [] (evCons (eSl (eLoc 0) (poSome (eLit (.int 1))) (poNone)) (evNil)))) (sRet (eIf (bOr (bVal (eBin wIsN (eLoc 1) (eLit .non))) (bVal (eBin wIsN (eLoc 2) (eLit .non)))) (eLit .non) (eTup (evCons (eLoc 1) (evCons (eLoc 2) (evNil)))))))))
theorem sc__bet_and_offers_told : FnScope ["words", "bet", "offers"] ["words"] (defScope s__bet_and_offers_told) := ⟨rfl, rfl, rfl, by decide +kernel, rfl, by decide +kernel, by decide +kernel⟩
theorem ok__bet_and_offers_told {f : Addr} {fd : FuncData} (F : L2.Fun K "_bet_and_offers_told" "_bet_and_offers_told" s__bet_and_offers_told f fd) (T : TX K mg cl ec fld) (G_bet_told : Fn ⟨K, cl, ec, fld⟩ P w mg base 3 "bet_told" 1 [] F_bet_told) (G_offers_told : Fn ⟨K, cl, ec, fld⟩ P w mg base 5 "offers_told" 1 [] F_offers_told) : FnOk P w K mg base (L2.CX P w) 6 f fd ["words"] (spF ⟨K, cl, ec, fld⟩ 1 F__bet_and_offers_told) := by
  refine q_ok F sc__bet_and_offers_told rfl rfl fun b q cdv A outer s H E hr => ?_
  have TK := takes_of (X := cxOf (L2.CX P w) P w K mg base ["words", "bet", "offers"] "_bet_and_offers_told" (defScope s__bet_and_offers_told) f cdv A outer s H E) rfl rfl rfl rfl
  exact qs_cons (qs_if (t_cmp (c_eq rfl hr) (qe_blt call_len (ok_len rfl) (by rfl) T.b_len (by decide +kernel) (qa_cons (qe_loc 0) (qa_nil))) (qe_int)) (qs_one (qs_ret (qe_non))) (qs_nil)) (qs_cons (qs_set (qe_call1 G_bet_told rfl (hr.mono (by first | exact Nat.le_refl _ | omega)) TK (by rfl) (qa_cons (qe_ix rfl (qe_loc 0) (qe_int)) (qa_nil)) 1 rfl (evLen_cons evLen_nil)) (qg_name (i := 1) (sc__bet_and_offers_told).nd rfl (by first | exact Or.inl rfl | exact Or.inr rfl))) (qs_cons (qs_set (qe_call1 G_offers_told rfl (hr.mono (by first | exact Nat.le_refl _ | omega)) TK (by rfl) (qa_cons (qe_sl rfl (qe_loc 0) (qo_some (qe_int)) (qo_none)) (qa_nil)) 1 rfl (evLen_cons evLen_nil)) (qg_name (i := 2) (sc__bet_and_offers_told).nd rfl (by first | exact Or.inl rfl | exact Or.inr rfl))) (qs_one (qs_ret (qe_if (qw_pt (qw_or (t_cmp c_is (qe_loc 1) (qe_non)) (qw_or1 (t_cmp c_is (qe_loc 2) (qe_non))))) (qe_non) (qe_tup (qa_cons (qe_loc 1) (qa_cons (qe_loc 2) (qa_nil)))))))))
abbrev s__told_behind_name : Stmt := top 112
def F__told_behind_name : List W → Sto → Res W := defn 2 (sSeq (sIf (bVal (eBin wEq (eLoc 0) (eLit (.str "race")))) (sRet (eCall (F_race_told) [] (evCons (eLoc 1) (evNil)))) (sNil)) (sSeq (sIf (bVal (eBin wIn (eLoc 0) (eTup (evCons (eLit (.str "show")) (evCons (eLit (.str "outcomes")) (evNil)))))) (sRet (eIf (bVal (eBin wEq (eB fLen (evCons (eLoc 1) (evNil))) (eLit (.int 0)))) (eTup (evNil)) (eLit .non))) (sNil)) (sSeq (sIf (bVal (eBin wIn (eLoc 0) (eTup (evCons (eLit (.str "sure")) (evCons (eLit (.str "surest")) (evNil)))))) (sRet (eIf (bVal (eBin wGt (eB fLen (evCons (eLoc 1) (evNil))) (eLit (.int 0)))) (eCall (F_offers_told) [] (evCons (eLoc 1) (evNil))) (eLit .non))) (sNil)) (sSeq (sIf (bVal (eBin wIn (eLoc 0) (eTup (evCons (eLit (.str "top")) (evCons (eLit (.str "low")) (evNil)))))) (sRet (eCall (F__bet_and_offers_told) [] (evCons (eLoc 1) (evNil)))) (sNil)) (sRet (eLit .non))))))
theorem sc__told_behind_name : FnScope ["word", "words"] ["word", "words"] (defScope s__told_behind_name) := ⟨rfl, rfl, rfl, by decide +kernel, rfl, by decide +kernel, by decide +kernel⟩
theorem ok__told_behind_name {f : Addr} {fd : FuncData} (F : L2.Fun K "_told_behind_name" "_told_behind_name" s__told_behind_name f fd) (T : TX K mg cl ec fld) (G_race_told : Fn ⟨K, cl, ec, fld⟩ P w mg base 3 "race_told" 1 [] F_race_told) (G__bet_and_offers_told : Fn ⟨K, cl, ec, fld⟩ P w mg base 6 "_bet_and_offers_told" 1 [] F__bet_and_offers_told) (G_offers_told : Fn ⟨K, cl, ec, fld⟩ P w mg base 5 "offers_told" 1 [] F_offers_told) : FnOk P w K mg base (L2.CX P w) 7 f fd ["word", "words"] (spF ⟨K, cl, ec, fld⟩ 2 F__told_behind_name) := by
  refine q_ok F sc__told_behind_name rfl rfl fun b q cdv A outer s H E hr => ?_
  have TK := takes_of (X := cxOf (L2.CX P w) P w K mg base ["word", "words"] "_told_behind_name" (defScope s__told_behind_name) f cdv A outer s H E) rfl rfl rfl rfl
  exact qs_cons (qs_if (t_cmp (c_eq rfl hr) (qe_loc 0) (qe_str)) (qs_one (qs_ret (qe_call1 G_race_told rfl (hr.mono (by first | exact Nat.le_refl _ | omega)) TK (by rfl) (qa_cons (qe_loc 1) (qa_nil)) 1 rfl (evLen_cons evLen_nil)))) (qs_nil)) (qs_cons (qs_if (t_cmp (c_in rfl hr) (qe_loc 0) (qe_tup (qa_cons (qe_str) (qa_cons (qe_str) (qa_nil))))) (qs_one (qs_ret (qe_if (t_cmp (c_eq rfl hr) (qe_blt call_len (ok_len rfl) (by rfl) T.b_len (by decide +kernel) (qa_cons (qe_loc 1) (qa_nil))) (qe_int)) (qe_tup (qa_nil)) (qe_non)))) (qs_nil)) (qs_cons (qs_if (t_cmp (c_in rfl hr) (qe_loc 0) (qe_tup (qa_cons (qe_str) (qa_cons (qe_str) (qa_nil))))) (qs_one (qs_ret (qe_if (t_cmp c_gt (qe_blt call_len (ok_len rfl) (by rfl) T.b_len (by decide +kernel) (qa_cons (qe_loc 1) (qa_nil))) (qe_int)) (qe_call1 G_offers_told rfl (hr.mono (by first | exact Nat.le_refl _ | omega)) TK (by rfl) (qa_cons (qe_loc 1) (qa_nil)) 1 rfl (evLen_cons evLen_nil)) (qe_non)))) (qs_nil)) (qs_cons (qs_if (t_cmp (c_in rfl hr) (qe_loc 0) (qe_tup (qa_cons (qe_str) (qa_cons (qe_str) (qa_nil))))) (qs_one (qs_ret (qe_call1 G__bet_and_offers_told rfl (hr.mono (by first | exact Nat.le_refl _ | omega)) TK (by rfl) (qa_cons (qe_loc 1) (qa_nil)) 1 rfl (evLen_cons evLen_nil)))) (qs_nil)) (qs_one (qs_ret (qe_non))))))
abbrev s__task : Stmt := top 110
def F__task : List W → Sto → Res W := defn 5 (sSeq (sSet (tgName 1) (eMs fSplit (eLoc 0) (evCons (eLit (.str " ")) (evNil)))) (sSeq (sSet (tgName 2) (eBin wIx (eLoc 1) (eLit (.int 0)))) (sSeq (sIf (bVal (eInK [Str.ofString "comes", Str.ofString "least"] (eLoc 2))) (sSeq (sSet (tgName 3) (eLit .non)) (sSet (tgName 4) (eCall (F__pool_told) [] (evCons (eSl (eLoc 1) (poSome (eLit (.int 1))) (poNone)) (evNil))))) (sIf (bAnd (bVal (eBin wGt (eB fLen (evCons (eLoc 1) (evNil))) (eLit (.int 1)))) (bTru (eCall (F__is_name) [] (evCons (eBin wIx (eLoc 1) (eLit (.int 1))) (evNil))))) (sSeq (sSet (tgName 3) (eBin wIx (eLoc 1) (eLit (.int 1)))) (sSet (tgName 4) (eCall (F__told_behind_name) [] (evCons (eLoc 2) (evCons (eSl (eLoc 1) (poSome (eLit (.int 2))) (poNone)) (evNil)))))) (sRet (eLit .non)))) (sRet (eIf (bVal (eBin wIsN (eLoc 4) (eLit .non))) (eLit .non) (eTup (evCons (eLoc 2) (evCons (eLoc 3) (evCons (eLoc 4) (evNil))))))))))
theorem sc__task : FnScope ["command", "words", "word", "name", "told"] ["command"] (defScope s__task) := ⟨rfl, rfl, rfl, by decide +kernel, rfl, by decide +kernel, by decide +kernel⟩
theorem ok__task {f : Addr} {fd : FuncData} (F : L2.Fun K "_task" "_task" s__task f fd) (T : TX K mg cl ec fld) (G__pool_told : Fn ⟨K, cl, ec, fld⟩ P w mg base 5 "_pool_told" 1 [] F__pool_told) (G__is_name : Fn ⟨K, cl, ec, fld⟩ P w mg base 1 "_is_name" 1 [] F__is_name) (G__told_behind_name : Fn ⟨K, cl, ec, fld⟩ P w mg base 7 "_told_behind_name" 2 [] F__told_behind_name) (D_POOL_ANSWERS : DkX K w mg "POOL_ANSWERS" [Str.ofString "comes", Str.ofString "least"]) : FnOk P w K mg base (L2.CX P w) 8 f fd ["command"] (spF ⟨K, cl, ec, fld⟩ 1 F__task) := by
  refine q_ok F sc__task rfl rfl fun b q cdv A outer s H E hr => ?_
  have TK := takes_of (X := cxOf (L2.CX P w) P w K mg base ["command", "words", "word", "name", "told"] "_task" (defScope s__task) f cdv A outer s H E) rfl rfl rfl rfl
  exact qs_cons (qs_set (qe_ms PySem.F.slot_str_split PySem.F.type_str_split mt_split mos_split (qe_loc 0) (qa_cons (qe_str) (qa_nil))) (qg_name (i := 1) (sc__task).nd rfl (by first | exact Or.inl rfl | exact Or.inr rfl))) (qs_cons (qs_set (qe_ix rfl (qe_loc 1) (qe_int)) (qg_name (i := 2) (sc__task).nd rfl (by first | exact Or.inl rfl | exact Or.inr rfl))) (qs_cons (qs_if (qt_inD D_POOL_ANSWERS (by rfl) (qe_loc 2)) (qs_cons (qs_set (qe_non) (qg_name (i := 3) (sc__task).nd rfl (by first | exact Or.inl rfl | exact Or.inr rfl))) (qs_one (qs_set (qe_call1 G__pool_told rfl (hr.mono (by first | exact Nat.le_refl _ | omega)) TK (by rfl) (qa_cons (qe_sl rfl (qe_loc 1) (qo_some (qe_int)) (qo_none)) (qa_nil)) 1 rfl (evLen_cons evLen_nil)) (qg_name (i := 4) (sc__task).nd rfl (by first | exact Or.inl rfl | exact Or.inr rfl))))) (qs_one (qs_if (qw_pt (qw_and (t_cmp c_gt (qe_blt call_len (ok_len rfl) (by rfl) T.b_len (by decide +kernel) (qa_cons (qe_loc 1) (qa_nil))) (qe_int)) (qw_and1 (qt_tru rfl (qe_call1 G__is_name rfl (hr.mono (by first | exact Nat.le_refl _ | omega)) TK (by rfl) (qa_cons (qe_ix rfl (qe_loc 1) (qe_int)) (qa_nil)) 1 rfl (evLen_cons evLen_nil)))))) (qs_cons (qs_set (qe_ix rfl (qe_loc 1) (qe_int)) (qg_name (i := 3) (sc__task).nd rfl (by first | exact Or.inl rfl | exact Or.inr rfl))) (qs_one (qs_set (qe_call1 G__told_behind_name rfl (hr.mono (by first | exact Nat.le_refl _ | omega)) TK (by rfl) (qa_cons (qe_loc 2) (qa_cons (qe_sl rfl (qe_loc 1) (qo_some (qe_int)) (qo_none)) (qa_nil))) 2 rfl (evLen_cons (evLen_cons evLen_nil))) (qg_name (i := 4) (sc__task).nd rfl (by first | exact Or.inl rfl | exact Or.inr rfl))))) (qs_one (qs_ret (qe_non)))))) (qs_one (qs_ret (qe_if (t_cmp c_is (qe_loc 4) (qe_non)) (qe_non) (qe_tup (qa_cons (qe_loc 2) (qa_cons (qe_loc 3) (qa_cons (qe_loc 4) (qa_nil))))))))))
abbrev s_is_integer : Stmt := top 11
def F_is_integer : List W → Sto → Res W := defn 1 (sRet (eAnd (eIsi ans_int (eLoc 0)) (eNot (eIsi ans_bool (eLoc 0)))))
theorem sc_is_integer : FnScope ["value"] ["value"] (defScope s_is_integer) := ⟨rfl, rfl, rfl, by decide +kernel, rfl, by decide +kernel, by decide +kernel⟩
theorem ok_is_integer {f : Addr} {fd : FuncData} (F : L2.Fun K "is_integer" "is_integer" s_is_integer f fd) (T : TX K mg cl ec fld) : FnOk P w K mg base (L2.CX P w) 1 f fd ["value"] (spF ⟨K, cl, ec, fld⟩ 1 F_is_integer) := by
  refine q_ok F sc_is_integer rfl rfl fun b q cdv A outer s H E hr => ?_
  have TK := takes_of (X := cxOf (L2.CX P w) P w K mg base ["value"] "is_integer" (defScope s_is_integer) f cdv A outer s H E) rfl rfl rfl rfl
  exact qs_one (qs_ret (qe_and (qe_isi1 (T := .int) T.ai_int rfl (by rfl) T.b_isinstance (qe_loc 0) (pe_bltn (v := .ty "int") (by rfl) T.b_int (by decide +kernel) rfl) (.ty _) T.an_int) (qe_one (qe_not (qe_isi1 (T := .bl) T.ai_bool rfl (by rfl) T.b_isinstance (qe_loc 0) (pe_bltn (v := .ty "bool") (by rfl) T.b_bool (by decide +kernel) rfl) (.ty _) T.an_bool)))))
abbrev s_is_integer_within : Stmt := top 12
def F_is_integer_within : List W → Sto → Res W := defn 3 (sRet (eAnd (eCall (F_is_integer) [] (evCons (eLoc 0) (evNil))) (eChain wLe wLe (eLoc 1) (eLoc 0) (eLoc 2))))
theorem sc_is_integer_within : FnScope ["value", "least", "most"] ["value", "least", "most"] (defScope s_is_integer_within) := ⟨rfl, rfl, rfl, by decide +kernel, rfl, by decide +kernel, by decide +kernel⟩
theorem ok_is_integer_within {f : Addr} {fd : FuncData} (F : L2.Fun K "is_integer_within" "is_integer_within" s_is_integer_within f fd) (T : TX K mg cl ec fld) (G_is_integer : Fn ⟨K, cl, ec, fld⟩ P w mg base 1 "is_integer" 1 [] F_is_integer) : FnOk P w K mg base (L2.CX P w) 2 f fd ["value", "least", "most"] (spF ⟨K, cl, ec, fld⟩ 3 F_is_integer_within) := by
  refine q_ok F sc_is_integer_within rfl rfl fun b q cdv A outer s H E hr => ?_
  have TK := takes_of (X := cxOf (L2.CX P w) P w K mg base ["value", "least", "most"] "is_integer_within" (defScope s_is_integer_within) f cdv A outer s H E) rfl rfl rfl rfl
  exact qs_one (qs_ret (qe_and (qe_call1 G_is_integer rfl (hr.mono (by first | exact Nat.le_refl _ | omega)) TK (by rfl) (qa_cons (qe_loc 0) (qa_nil)) 1 rfl (evLen_cons evLen_nil)) (qe_one (q_chain c_le c_le (qe_loc 1) (qe_loc 0) (qe_loc 2)))))
abbrev s_is_sequence : Stmt := top 13
def F_is_sequence : List W → Sto → Res W := defn 1 (sRet (eIsi ans_list_tuple (eLoc 0)))
theorem sc_is_sequence : FnScope ["value"] ["value"] (defScope s_is_sequence) := ⟨rfl, rfl, rfl, by decide +kernel, rfl, by decide +kernel, by decide +kernel⟩
theorem ok_is_sequence {f : Addr} {fd : FuncData} (F : L2.Fun K "is_sequence" "is_sequence" s_is_sequence f fd) (T : TX K mg cl ec fld) : FnOk P w K mg base (L2.CX P w) 1 f fd ["value"] (spF ⟨K, cl, ec, fld⟩ 1 F_is_sequence) := by
  refine q_ok F sc_is_sequence rfl rfl fun b q cdv A outer s H E hr => ?_
  have TK := takes_of (X := cxOf (L2.CX P w) P w K mg base ["value"] "is_sequence" (defScope s_is_sequence) f cdv A outer s H E) rfl rfl rfl rfl
  exact qs_one (qs_ret (qe_isi2 (T1 := .lst) (T2 := .tup) T.ai_list_tuple rfl (by rfl) T.b_isinstance (qe_loc 0) (pe_bltn (v := .ty "list") (by rfl) T.b_list (by decide +kernel) rfl) (.ty _) (pe_bltn (v := .ty "tuple") (by rfl) T.b_tuple (by decide +kernel) rfl) (.ty _) T.an_list_tuple))
abbrev s__are_runners : Stmt := top 36
def F__are_runners : List W → Sto → Res W := defn 3 (sRet (eAnd (eCall (F_is_sequence) [] (evCons (eLoc 0) (evNil))) (eB fAll (evCons (eComp 1000000 [2] (vSeq (eLoc 0)) (tgName 2) (bYes) (eCall (F_is_integer_within) [] (evCons (eLoc 2) (evCons (eLit (.int 0)) (evCons (eBin wSub (eLoc 1) (eLit (.int 1))) (evNil)))))) (evNil)))))
theorem sc__are_runners : FnScope ["value", "runners", "part"] ["value", "runners"] (defScope s__are_runners) := ⟨rfl, rfl, rfl, by decide +kernel, rfl, by decide +kernel, by decide +kernel⟩
theorem ok__are_runners {f : Addr} {fd : FuncData} (F : L2.Fun K "_are_runners" "_are_runners" s__are_runners f fd) (T : TX K mg cl ec fld) (G_is_sequence : Fn ⟨K, cl, ec, fld⟩ P w mg base 1 "is_sequence" 1 [] F_is_sequence) (G_is_integer_within : Fn ⟨K, cl, ec, fld⟩ P w mg base 2 "is_integer_within" 3 [] F_is_integer_within) : FnOk P w K mg base (L2.CX P w) 3 f fd ["value", "runners"] (spF ⟨K, cl, ec, fld⟩ 2 F__are_runners) := by
  refine q_ok F sc__are_runners rfl rfl fun b q cdv A outer s H E hr => ?_
  have TK := takes_of (X := cxOf (L2.CX P w) P w K mg base ["value", "runners", "part"] "_are_runners" (defScope s__are_runners) f cdv A outer s H E) rfl rfl rfl rfl
  exact qs_one (qs_ret (qe_and (qe_call1 G_is_sequence rfl (hr.mono (by first | exact Nat.le_refl _ | omega)) TK (by rfl) (qa_cons (qe_loc 0) (qa_nil)) 1 rfl (evLen_cons evLen_nil)) (qe_one (qe_blt (cr_all rfl) (ok_all rfl) (by rfl) T.b_all (by decide +kernel) (qa_cons (qe_comp (own := [("part", 2)]) (n := 1000000) rfl (sc__are_runners).nd (qi_seq rfl (qe_loc 0)) (by change BlkOk ["value", "runners", "part"] (defScope s__are_runners) _ _; exact blkOk_by (by decide +kernel)) (fun _ _ _ _ _ => pg_name (i := 2) (sc__are_runners).nd rfl (by first | exact Or.inl rfl | exact Or.inr rfl)) (ct_name (by decide)) (fun _ _ _ _ _ => qc_nil) (fun _ _ _ _ _ => qe_call1 G_is_integer_within rfl (hr.mono (by first | exact Nat.le_refl _ | omega)) (takesX (CX := L2.CX P w)) (by rfl) (qa_cons (qe_loc 2) (qa_cons (qe_int) (qa_cons (q_sub (qe_loc 1) (qe_int)) (qa_nil)))) 3 rfl (evLen_cons (evLen_cons (evLen_cons evLen_nil))))) (qa_nil))))))
abbrev s__is_ascending : Stmt := top 35
def F__is_ascending : List W → Sto → Res W := defn 2 (sRet (eAnd (eCall (F__are_runners) [] (evCons (eLoc 0) (evCons (eLoc 1) (evNil)))) (eBin wEq (eB fList (evCons (eLoc 0) (evNil))) (eU fSortSet (eLoc 0)))))
theorem sc__is_ascending : FnScope ["value", "runners"] ["value", "runners"] (defScope s__is_ascending) := ⟨rfl, rfl, rfl, by decide +kernel, rfl, by decide +kernel, by decide +kernel⟩
theorem ok__is_ascending {f : Addr} {fd : FuncData} (F : L2.Fun K "_is_ascending" "_is_ascending" s__is_ascending f fd) (T : TX K mg cl ec fld) (G__are_runners : Fn ⟨K, cl, ec, fld⟩ P w mg base 3 "_are_runners" 2 [] F__are_runners) : FnOk P w K mg base (L2.CX P w) 4 f fd ["value", "runners"] (spF ⟨K, cl, ec, fld⟩ 2 F__is_ascending) := by
  refine q_ok F sc__is_ascending rfl rfl fun b q cdv A outer s H E hr => ?_
  have TK := takes_of (X := cxOf (L2.CX P w) P w K mg base ["value", "runners"] "_is_ascending" (defScope s__is_ascending) f cdv A outer s H E) rfl rfl rfl rfl
  exact qs_one (qs_ret (qe_and (qe_call1 G__are_runners rfl (hr.mono (by first | exact Nat.le_refl _ | omega)) TK (by rfl) (qa_cons (qe_loc 0) (qa_cons (qe_loc 1) (qa_nil))) 2 rfl (evLen_cons (evLen_cons evLen_nil))) (qe_one (q_cmp (c_eq rfl hr) (qe_typ call_list_of (ok_list rfl) (by rfl) T.b_list (by decide +kernel) (qa_cons (qe_loc 0) (qa_nil))) (qe_sortSet rfl rfl (by rfl) T.b_sorted (by rfl) T.b_set (qe_loc 0))))))
abbrev s__are_cuts : Stmt := top 37
def F__are_cuts : List W → Sto → Res W := defn 3 (sSeq (sIf (bOr (bNot (bTru (eCall (F_is_sequence) [] (evCons (eLoc 0) (evNil))))) (bVal (eBin wNotIn (eB fLen (evCons (eLoc 0) (evNil))) (eTup (evCons (eLit (.int 0)) (evCons (eLoc 1) (evNil))))))) (sRet (eLit (.bl false))) (sNil)) (sRet (eB fAll (evCons (eComp 1000000 [2] (vSeq (eLoc 0)) (tgName 2) (bYes) (eCall (F_is_integer_within) [] (evCons (eLoc 2) (evCons (eLit (.int 0)) (evCons (eLit (.int 90)) (evNil)))))) (evNil)))))
theorem sc__are_cuts : FnScope ["value", "runners", "cut"] ["value", "runners"] (defScope s__are_cuts) := ⟨rfl, rfl, rfl, by decide +kernel, rfl, by decide +kernel, by decide +kernel⟩
theorem ok__are_cuts {f : Addr} {fd : FuncData} (F : L2.Fun K "_are_cuts" "_are_cuts" s__are_cuts f fd) (T : TX K mg cl ec fld) (G_is_sequence : Fn ⟨K, cl, ec, fld⟩ P w mg base 1 "is_sequence" 1 [] F_is_sequence) (G_is_integer_within : Fn ⟨K, cl, ec, fld⟩ P w mg base 2 "is_integer_within" 3 [] F_is_integer_within) : FnOk P w K mg base (L2.CX P w) 3 f fd ["value", "runners"] (spF ⟨K, cl, ec, fld⟩ 2 F__are_cuts) := by
  refine q_ok F sc__are_cuts rfl rfl fun b q cdv A outer s H E hr => ?_
  have TK := takes_of (X := cxOf (L2.CX P w) P w K mg base ["value", "runners", "cut"] "_are_cuts" (defScope s__are_cuts) f cdv A outer s H E) rfl rfl rfl rfl
  exact qs_cons (qs_if (qw_pt (qw_or (qt_not (qt_tru rfl (qe_call1 G_is_sequence rfl (hr.mono (by first | exact Nat.le_refl _ | omega)) TK (by rfl) (qa_cons (qe_loc 0) (qa_nil)) 1 rfl (evLen_cons evLen_nil)))) (qw_or1 (t_cmp (c_notIn rfl hr) (qe_blt call_len (ok_len rfl) (by rfl) T.b_len (by decide +kernel) (qa_cons (qe_loc 0) (qa_nil))) (qe_tup (qa_cons (qe_int) (qa_cons (qe_loc 1) (qa_nil)))))))) (qs_one (qs_ret (qe_bl))) (qs_nil)) (qs_one (qs_ret (qe_blt (cr_all rfl) (ok_all rfl) (by rfl) T.b_all (by decide +kernel) (qa_cons (qe_comp (own := [("cut", 2)]) (n := 1000000) rfl (sc__are_cuts).nd (qi_seq rfl (qe_loc 0)) (by change BlkOk ["value", "runners", "cut"] (defScope s__are_cuts) _ _; exact blkOk_by (by decide +kernel)) (fun _ _ _ _ _ => pg_name (i := 2) (sc__are_cuts).nd rfl (by first | exact Or.inl rfl | exact Or.inr rfl)) (ct_name (by decide)) (fun _ _ _ _ _ => qc_nil) (fun _ _ _ _ _ => qe_call1 G_is_integer_within rfl (hr.mono (by first | exact Nat.le_refl _ | omega)) (takesX (CX := L2.CX P w)) (by rfl) (qa_cons (qe_loc 2) (qa_cons (qe_int) (qa_cons (q_gint (by rfl) T.k_MOST_CUT) (qa_nil)))) 3 rfl (evLen_cons (evLen_cons (evLen_cons evLen_nil))))) (qa_nil)))))
abbrev s_Race_init : Stmt := inClass (top 29) 0
def F_Race_init : List W → Sto → Res W := defn 5 (sSeq (sIf (bNot (bTru (eCall (F_is_integer_within) [] (evCons (eLoc 1) (evCons (eLit (.int 1)) (evCons (eLit (.int 4)) (evNil))))))) (sRaise 0 (evCons (eLit (.int 1)) (evNil))) (sNil)) (sSeq (sIf (bNot (bTru (eIsi ans_bool (eLoc 2)))) (sRaise 0 (evCons (eLit (.int 2)) (evNil))) (sNil)) (sSeq (sIf (bNot (bTru (eCall (F__is_ascending) [] (evCons (eLoc 3) (evCons (eLoc 1) (evNil)))))) (sRaise 0 (evCons (eLit (.int 3)) (evNil))) (sNil)) (sSeq (sIf (bNot (bTru (eCall (F__are_cuts) [] (evCons (eLoc 4) (evCons (eLoc 1) (evNil)))))) (sRaise 0 (evCons (eLit (.int 4)) (evNil))) (sNil)) (sSeq (sFldW 0 "_runners" (eLoc 0) (eLoc 1)) (sSeq (sFldW 0 "_ties" (eLoc 0) (eLoc 2)) (sSeq (sFldW 0 "_absent" (eLoc 0) (eB fTuple (evCons (eLoc 3) (evNil)))) (sFldW 0 "_cuts" (eLoc 0) (eIf (bVal (eBin wGt (eB fLen (evCons (eLoc 4) (evNil))) (eLit (.int 0)))) (eB fTuple (evCons (eLoc 4) (evNil))) (eBin wMul (eTup (evCons (eLit (.int 0)) (evNil))) (eLoc 1)))))))))))
theorem sc_Race_init : FnScope ["self", "runners", "ties", "absent", "cuts"] ["self", "runners", "ties", "absent", "cuts"] (defScope s_Race_init) := ⟨rfl, rfl, rfl, by decide +kernel, rfl, by decide +kernel, by decide +kernel⟩
theorem ok_Race_init {dvs : List V} {f : Addr} {fd : FuncData} (F : L2.FunD K "__init__" "Race.__init__" (defArgs s_Race_init) (defBody s_Race_init) (defScope s_Race_init) dvs [] f fd) (T : TX K mg cl ec fld) (G_is_integer_within : Fn ⟨K, cl, ec, fld⟩ P w mg base 2 "is_integer_within" 3 [] F_is_integer_within) (G__is_ascending : Fn ⟨K, cl, ec, fld⟩ P w mg base 4 "_is_ascending" 2 [] F__is_ascending) (G__are_cuts : Fn ⟨K, cl, ec, fld⟩ P w mg base 3 "_are_cuts" 2 [] F__are_cuts) : FnOk P w K mg base (L2.CX P w) 5 f fd ["self", "runners", "ties", "absent", "cuts"] (spF ⟨K, cl, ec, fld⟩ 5 F_Race_init) := by
  refine q_okD F sc_Race_init rfl rfl fun b q cdv A outer s H E hr => ?_
  have TK := takes_of (X := cxOf (L2.CX P w) P w K mg base ["self", "runners", "ties", "absent", "cuts"] "Race.__init__" (defScope s_Race_init) f cdv A outer s H E) rfl rfl rfl rfl
  exact qs_cons (qs_if (qt_not (qt_tru rfl (qe_call1 G_is_integer_within rfl (hr.mono (by first | exact Nat.le_refl _ | omega)) TK (by rfl) (qa_cons (qe_loc 1) (qa_cons (qe_int) (qa_cons (q_gint (by rfl) T.k_MOST_RUNNERS) (qa_nil)))) 3 rfl (evLen_cons (evLen_cons (evLen_cons evLen_nil)))))) (qs_one (qs_raise (c := 0) rfl (by rfl) T.e_BadValue T.em_BadValue hr TK rfl (qa_cons (qe_int) (qa_nil)))) (qs_nil)) (qs_cons (qs_if (qt_not (qt_tru rfl (qe_isi1 (T := .bl) T.ai_bool rfl (by rfl) T.b_isinstance (qe_loc 2) (pe_bltn (v := .ty "bool") (by rfl) T.b_bool (by decide +kernel) rfl) (.ty _) T.an_bool))) (qs_one (qs_raise (c := 0) rfl (by rfl) T.e_BadValue T.em_BadValue hr TK rfl (qa_cons (qe_int) (qa_nil)))) (qs_nil)) (qs_cons (qs_if (qt_not (qt_tru rfl (qe_call1 G__is_ascending rfl (hr.mono (by first | exact Nat.le_refl _ | omega)) TK (by rfl) (qa_cons (qe_loc 3) (qa_cons (qe_loc 1) (qa_nil))) 2 rfl (evLen_cons (evLen_cons evLen_nil))))) (qs_one (qs_raise (c := 0) rfl (by rfl) T.e_BadValue T.em_BadValue hr TK rfl (qa_cons (qe_int) (qa_nil)))) (qs_nil)) (qs_cons (qs_if (qt_not (qt_tru rfl (qe_call1 G__are_cuts rfl (hr.mono (by first | exact Nat.le_refl _ | omega)) TK (by rfl) (qa_cons (qe_loc 4) (qa_cons (qe_loc 1) (qa_nil))) 2 rfl (evLen_cons (evLen_cons evLen_nil))))) (qs_one (qs_raise (c := 0) rfl (by rfl) T.e_BadValue T.em_BadValue hr TK rfl (qa_cons (qe_int) (qa_nil)))) (qs_nil)) (qs_cons (qs_fld rfl T.c_Race.cl T.na_Race__runners (qe_loc 0) (qe_loc 1)) (qs_cons (qs_fld rfl T.c_Race.cl T.na_Race__ties (qe_loc 0) (qe_loc 2)) (qs_cons (qs_fld rfl T.c_Race.cl T.na_Race__absent (qe_loc 0) (qe_typ call_tuple_of (ok_tuple rfl) (by rfl) T.b_tuple (by decide +kernel) (qa_cons (qe_loc 3) (qa_nil)))) (qs_one (qs_fld rfl T.c_Race.cl T.na_Race__cuts (qe_loc 0) (qe_if (t_cmp c_gt (qe_blt call_len (ok_len rfl) (by rfl) T.b_len (by decide +kernel) (qa_cons (qe_loc 4) (qa_nil))) (qe_int)) (qe_typ call_tuple_of (ok_tuple rfl) (by rfl) T.b_tuple (by decide +kernel) (qa_cons (qe_loc 4) (qa_nil))) (q_mul rfl (qe_tup (qa_cons (qe_int) (qa_nil))) (qe_loc 1)))))))))))
abbrev s_Console_worked_out : Stmt := inClass (top 109) 6
def F_Console_worked_out : List W → Sto → Res W := defn 11 (sSeq (sSet (tgTup 3 (tgCons (tgName 2) (tgCons (tgName 3) (tgCons (tgName 4) (tgNil))))) (eLoc 1)) (sSeq (sIf (bVal (eBin wEq (eLoc 2) (eLit (.str "race")))) (sSeq (sSet (tgTup 4 (tgCons (tgName 5) (tgCons (tgName 6) (tgCons (tgName 7) (tgCons (tgName 8) (tgNil)))))) (eLoc 4)) (sSeq (sDPut (eFld 2 "_races" (eLoc 0)) (eLoc 3) (eMake 0 F_Race_init [] (evCons (eLoc 5) (evCons (eLoc 6) (evCons (eLoc 7) (evCons (eLoc 8) (evNil))))))) (sRet (eLit (.str "ok"))))) (sNil)) (sSeq (sIf (bVal (eInK [Str.ofString "comes", Str.ofString "least"] (eLoc 2))) (sSeq (sSet (tgName 9) (eErr)) (sRet (eErr))) (sNil)) (sSeq (sIf (bVal (eDIn true (eLoc 3) (eFld 2 "_races" (eLoc 0)))) (sRet (eLit (.str "error Unknown"))) (sNil)) (sSeq (sSet (tgName 10) (eErr)) (sRet (eErr)))))))
theorem sc_Console_worked_out : FnScope ["self", "task", "word", "name", "told", "runners", "ties", "absent", "cuts", "pool_answer", "answer"] ["self", "task"] (defScope s_Console_worked_out) := ⟨rfl, rfl, rfl, by decide +kernel, rfl, by decide +kernel, by decide +kernel⟩
theorem ok_Console_worked_out {f : Addr} {fd : FuncData} (F : L2.Fun K "_worked_out" "Console._worked_out" s_Console_worked_out f fd) (T : TX K mg cl ec fld) (G_Race_init : FnI ⟨K, cl, ec, fld⟩ P w mg base 5 "Race" 0 5 [] F_Race_init) (D_POOL_ANSWERS : DkX K w mg "POOL_ANSWERS" [Str.ofString "comes", Str.ofString "least"]) : FnOk P w K mg base (L2.CX P w) 7 f fd ["self", "task"] (spF ⟨K, cl, ec, fld⟩ 2 F_Console_worked_out) := by
  refine q_ok F sc_Console_worked_out rfl rfl fun b q cdv A outer s H E hr => ?_
  have TK := takes_of (X := cxOf (L2.CX P w) P w K mg base ["self", "task", "word", "name", "told", "runners", "ties", "absent", "cuts", "pool_answer", "answer"] "Console._worked_out" (defScope s_Console_worked_out) f cdv A outer s H E) rfl rfl rfl rfl
  exact qs_cons (qs_set (qe_loc 1) (qg_tup (n := 3) rfl rfl (qg_cons (qg_name (i := 2) (sc_Console_worked_out).nd rfl (by first | exact Or.inl rfl | exact Or.inr rfl)) (qg_cons (qg_name (i := 3) (sc_Console_worked_out).nd rfl (by first | exact Or.inl rfl | exact Or.inr rfl)) (qg_cons (qg_name (i := 4) (sc_Console_worked_out).nd rfl (by first | exact Or.inl rfl | exact Or.inr rfl)) (qg_nil)))))) (qs_cons (qs_if (t_cmp (c_eq rfl hr) (qe_loc 2) (qe_str)) (qs_cons (qs_set (qe_loc 4) (qg_tup (n := 4) rfl rfl (qg_cons (qg_name (i := 5) (sc_Console_worked_out).nd rfl (by first | exact Or.inl rfl | exact Or.inr rfl)) (qg_cons (qg_name (i := 6) (sc_Console_worked_out).nd rfl (by first | exact Or.inl rfl | exact Or.inr rfl)) (qg_cons (qg_name (i := 7) (sc_Console_worked_out).nd rfl (by first | exact Or.inl rfl | exact Or.inr rfl)) (qg_cons (qg_name (i := 8) (sc_Console_worked_out).nd rfl (by first | exact Or.inl rfl | exact Or.inr rfl)) (qg_nil))))))) (qs_cons (qs_dput (un1 hr) (qe_fld rfl T.c_Console.cl T.na_Console__races (qe_loc 0)) (qe_loc 3) (qe_make G_Race_init rfl (hr.mono (by first | exact Nat.le_refl _ | omega)) TK (by rfl) (qa_cons (qe_loc 5) (qa_cons (qe_loc 6) (qa_cons (qe_loc 7) (qa_cons (qe_loc 8) (qa_nil))))) 4 rfl (evLen_cons (evLen_cons (evLen_cons (evLen_cons evLen_nil)))))) (qs_one (qs_ret (qe_str))))) (qs_nil)) (qs_cons (qs_if (qt_inD D_POOL_ANSWERS (by rfl) (qe_loc 2)) (qs_cons (qs_set (qe_err) (qg_name (i := 9) (sc_Console_worked_out).nd rfl (by first | exact Or.inl rfl | exact Or.inr rfl))) (qs_one (qs_ret (qe_err)))) (qs_nil)) (qs_cons (qs_if (qt_dnotin (un1 hr) (qe_loc 3) (qe_fld rfl T.c_Console.cl T.na_Console__races (qe_loc 0))) (qs_one (qs_ret (qe_str))) (qs_nil)) (qs_cons (qs_set (qe_err) (qg_name (i := 10) (sc_Console_worked_out).nd rfl (by first | exact Or.inl rfl | exact Or.inr rfl))) (qs_one (qs_ret (qe_err)))))))
abbrev s_Console_answer : Stmt := inClass (top 109) 5
def F_Console_answer : List W → Sto → Res W := defn 2 (sTryU [(cat_BadValue, sRet (eLit (.str "error BadValue"))), (cat_BadOffer, sRet (eLit (.str "error BadOffer"))), (cat_TooMany, sRet (eLit (.str "error TooMany")))] (sRet (eMethX 2 "_worked_out" F_Console_worked_out (eLoc 0) (evCons (eLoc 1) (evNil)))))
theorem sc_Console_answer : FnScope ["self", "task"] ["self", "task"] (defScope s_Console_answer) := ⟨rfl, rfl, rfl, by decide +kernel, rfl, by decide +kernel, by decide +kernel⟩
theorem ok_Console_answer {f : Addr} {fd : FuncData} (F : L2.Fun K "_answer" "Console._answer" s_Console_answer f fd) (T : TX K mg cl ec fld) (G_Console_worked_out : FnM ⟨K, cl, ec, fld⟩ P w mg base 7 "_worked_out" 2 2 F_Console_worked_out) : FnOk P w K mg base (L2.CX P w) 9 f fd ["self", "task"] (spF ⟨K, cl, ec, fld⟩ 2 F_Console_answer) := by
  refine q_ok F sc_Console_answer rfl rfl fun b q cdv A outer s H E hr => ?_
  have TK := takes_of (X := cxOf (L2.CX P w) P w K mg base ["self", "task"] "Console._answer" (defScope s_Console_answer) f cdv A outer s H E) rfl rfl rfl rfl
  exact qs_one (qs_tryU rfl rfl rfl TK (.cons ⟨rfl, by decide, Or.inl T.em_BadValue⟩ T.is_BadValue (fun _ _ _ => qs_one (qs_ret (qe_str))) (.cons ⟨rfl, by decide, Or.inl T.em_BadOffer⟩ T.is_BadOffer (fun _ _ _ => qs_one (qs_ret (qe_str))) (.cons ⟨rfl, by decide, Or.inl T.em_TooMany⟩ T.is_TooMany (fun _ _ _ => qs_one (qs_ret (qe_str))) .nil))) (fun W pn xe TW HP => qs_one (qs_ret (qe_methX G_Console_worked_out rfl T.c_Console.cl (hr.mono (by first | exact Nat.le_refl _ | omega)) TW (qe_loc 0) (qa_cons (qe_loc 1) (qa_nil)) 1 rfl (evLen_cons evLen_nil)))))
abbrev s_Console_repeat : Stmt := inClass (top 109) 4
def F_Console_repeat : List W → Sto → Res W := defn 3 (sSeq (sIf (bVal (eBin wEq (eBin wIx (eLoc 2) (eLit (.int 0))) (eLit (.str "race")))) (sDrop (eMeth 2 "_answer" F_Console_answer (eLoc 0) (evCons (eLoc 2) (evNil)))) (sNil)) (sDrop (eMt fAppend (eFld 2 "_commands" (eLoc 0)) (evCons (eLoc 1) (evNil)))))
theorem sc_Console_repeat : FnScope ["self", "command", "task"] ["self", "command", "task"] (defScope s_Console_repeat) := ⟨rfl, rfl, rfl, by decide +kernel, rfl, by decide +kernel, by decide +kernel⟩
theorem ok_Console_repeat {f : Addr} {fd : FuncData} (F : L2.Fun K "_repeat" "Console._repeat" s_Console_repeat f fd) (T : TX K mg cl ec fld) (G_Console_answer : FnM ⟨K, cl, ec, fld⟩ P w mg base 9 "_answer" 2 2 F_Console_answer) : FnOk P w K mg base (L2.CX P w) 11 f fd ["self", "command", "task"] (spF ⟨K, cl, ec, fld⟩ 3 F_Console_repeat) := by
  refine q_ok F sc_Console_repeat rfl rfl fun b q cdv A outer s H E hr => ?_
  have TK := takes_of (X := cxOf (L2.CX P w) P w K mg base ["self", "command", "task"] "Console._repeat" (defScope s_Console_repeat) f cdv A outer s H E) rfl rfl rfl rfl
  exact qs_cons (qs_if (t_cmp (c_eq rfl hr) (qe_ix rfl (qe_loc 2) (qe_int)) (qe_str)) (qs_one (qs_drop (qe_meth G_Console_answer rfl T.c_Console.cl (hr.mono (by first | exact Nat.le_refl _ | omega)) (qe_loc 0) (qa_cons (qe_loc 2) (qa_nil)) 1 rfl (evLen_cons evLen_nil)))) (qs_nil)) (qs_one (qs_drop (qe_mt rfl PySem.F.slot_list_append PySem.F.type_list_append mt_append mok_append (qe_fld rfl T.c_Console.cl T.na_Console__commands (qe_loc 0)) (qa_cons (qe_loc 1) (qa_nil)))))
abbrev s_Console_replayed : Stmt := inClass (top 109) 3
def F_Console_replayed : List W → Sto → Res W := defn 6 (sSeq (sIf (bNot (bTru (eIsi ans_str (eLoc 0)))) (sRaise 0 (evCons (eLit (.int 1)) (evNil))) (sNil)) (sSeq (sSet (tgName 1) (eMs fSplit (eLoc 0) (evCons (eLit (.str "\n")) (evNil)))) (sSeq (sSet (tgName 2) (eMake 2 F_Console_init [] evNil)) (sSeq (sFor 1000000 (vEnumerate (evCons (eSl (eLoc 1) (poNone) (poSome (eU wNeg (eLit (.int 1))))) (evNil))) (tgTup 2 (tgCons (tgName 3) (tgCons (tgName 4) (tgNil)))) (sSeq (sSet (tgName 5) (eCall (F__task) [] (evCons (eLoc 4) (evNil)))) (sSeq (sIf (bVal (eBin wIsN (eLoc 5) (eLit .non))) (sRaise 2 (evCons (eLoc 3) (evNil))) (sNil)) (sDrop (eMeth 2 "_repeat" F_Console_repeat (eLoc 2) (evCons (eLoc 4) (evCons (eLoc 5) (evNil)))))))) (sSeq (sIf (bVal (eBin wNe (eBin wIx (eLoc 1) (eU wNeg (eLit (.int 1)))) (eLit (.str "")))) (sRaise 2 (evCons (eBin wSub (eB fLen (evCons (eLoc 1) (evNil))) (eLit (.int 1))) (evNil))) (sNil)) (sRet (eLoc 2)))))))
theorem sc_Console_replayed : FnScope ["log", "lines", "console", "at", "line", "task"] ["log"] (defScope s_Console_replayed) := ⟨rfl, rfl, rfl, by decide +kernel, rfl, by decide +kernel, by decide +kernel⟩
theorem ok_Console_replayed {f : Addr} {fd : FuncData} (F : L2.Fun K "replayed" "Console.replayed" s_Console_replayed f fd) (T : TX K mg cl ec fld) (G_Console_init : FnI ⟨K, cl, ec, fld⟩ P w mg base 1 "Console" 2 1 [] F_Console_init) (G__task : Fn ⟨K, cl, ec, fld⟩ P w mg base 8 "_task" 1 [] F__task) (G_Console_repeat : FnM ⟨K, cl, ec, fld⟩ P w mg base 11 "_repeat" 2 3 F_Console_repeat) : FnOk P w K mg base (L2.CX P w) 13 f fd ["log"] (spF ⟨K, cl, ec, fld⟩ 1 F_Console_replayed) := by
  refine q_ok F sc_Console_replayed rfl rfl fun b q cdv A outer s H E hr => ?_
  have TK := takes_of (X := cxOf (L2.CX P w) P w K mg base ["log", "lines", "console", "at", "line", "task"] "Console.replayed" (defScope s_Console_replayed) f cdv A outer s H E) rfl rfl rfl rfl
  exact qs_cons (qs_if (qt_not (qt_tru rfl (qe_isi1 (T := .str) T.ai_str rfl (by rfl) T.b_isinstance (qe_loc 0) (pe_bltn (v := .ty "str") (by rfl) T.b_str (by decide +kernel) rfl) (.ty _) T.an_str))) (qs_one (qs_raise (c := 0) rfl (by rfl) T.e_BadValue T.em_BadValue hr TK rfl (qa_cons (qe_int) (qa_nil)))) (qs_nil)) (qs_cons (qs_set (qe_ms PySem.F.slot_str_split PySem.F.type_str_split mt_split mos_split (qe_loc 0) (qa_cons (qe_str) (qa_nil))) (qg_name (i := 1) (sc_Console_replayed).nd rfl (by first | exact Or.inl rfl | exact Or.inr rfl))) (qs_cons (qs_set (qe_make0 G_Console_init rfl (hr.mono (by first | exact Nat.le_refl _ | omega)) TK (by rfl) rfl) (qg_name (i := 2) (sc_Console_replayed).nd rfl (by first | exact Or.inl rfl | exact Or.inr rfl))) (qs_cons (qs_for (n := 1000000) (passes_of (K := _) rfl) rfl (qi_enumerate rfl (by rfl) T.b_enumerate (qa_cons (qe_sl rfl (qe_loc 1) (qo_none) (qo_some (qe_neg (qe_int)))) (qa_nil))) (qg_tup (n := 2) rfl rfl (qg_cons (qg_name (i := 3) (sc_Console_replayed).nd rfl (by first | exact Or.inl rfl | exact Or.inr rfl)) (qg_cons (qg_name (i := 4) (sc_Console_replayed).nd rfl (by first | exact Or.inl rfl | exact Or.inr rfl)) (qg_nil)))) (qs_cons (qs_set (qe_call1 G__task rfl (hr.mono (by first | exact Nat.le_refl _ | omega)) TK (by rfl) (qa_cons (qe_loc 4) (qa_nil)) 1 rfl (evLen_cons evLen_nil)) (qg_name (i := 5) (sc_Console_replayed).nd rfl (by first | exact Or.inl rfl | exact Or.inr rfl))) (qs_cons (qs_if (t_cmp c_is (qe_loc 5) (qe_non)) (qs_one (qs_raise (c := 2) rfl (by rfl) T.e_BadSyntax T.em_BadSyntax hr TK rfl (qa_cons (qe_loc 3) (qa_nil)))) (qs_nil)) (qs_one (qs_drop (qe_meth G_Console_repeat rfl T.c_Console.cl (hr.mono (by first | exact Nat.le_refl _ | omega)) (qe_loc 2) (qa_cons (qe_loc 4) (qa_cons (qe_loc 5) (qa_nil))) 2 rfl (evLen_cons (evLen_cons evLen_nil)))))))) (qs_cons (qs_if (t_cmp (c_ne rfl hr) (qe_ix rfl (qe_loc 1) (qe_neg (qe_int))) (qe_str)) (qs_one (qs_raise (c := 2) rfl (by rfl) T.e_BadSyntax T.em_BadSyntax hr TK rfl (qa_cons (q_sub (qe_blt call_len (ok_len rfl) (by rfl) T.b_len (by decide +kernel) (qa_cons (qe_loc 1) (qa_nil))) (qe_int)) (qa_nil)))) (qs_nil)) (qs_one (qs_ret (qe_loc 2)))))))
abbrev s__law_replay_fault : Stmt := top 133
def F__law_replay_fault : List W → Sto → Res W := defn 2 (sSeq (sTryM 1 [(cat_BadValue, fun p => .tup [.str "value", p]), (cat_BadSyntax, fun p => .tup [.str "syntax", p])] (sDrop (eCall F_Console_replayed [] (evCons (eLoc 0) (evNil))))) (sRet (eLit .non)))
theorem sc__law_replay_fault : FnScope ["text", "error"] ["text"] (defScope s__law_replay_fault) := ⟨rfl, rfl, rfl, by decide +kernel, rfl, by decide +kernel, by decide +kernel⟩
theorem ok__law_replay_fault {f : Addr} {fd : FuncData} (F : L2.Fun K "_law_replay_fault" "_law_replay_fault" s__law_replay_fault f fd) (T : TX K mg cl ec fld) (G_Console_replayed : FnS ⟨K, cl, ec, fld⟩ P w mg base 13 "replayed" 2 1 F_Console_replayed) : FnOk P w K mg base (L2.CX P w) 15 f fd ["text"] (spF ⟨K, cl, ec, fld⟩ 1 F__law_replay_fault) := by
  refine q_ok F sc__law_replay_fault rfl rfl fun b q cdv A outer s H E hr => ?_
  have TK := takes_of (X := cxOf (L2.CX P w) P w K mg base ["text", "error"] "_law_replay_fault" (defScope s__law_replay_fault) f cdv A outer s H E) rfl rfl rfl rfl
  exact qs_cons (qs_tryM (i := 1) rfl rfl rfl (sc__law_replay_fault).nd rfl rfl TK (.cons (f := "at") ⟨rfl, by decide, Or.inl T.em_BadValue⟩ T.is_BadValue T.it_BadValue (suite_pair rfl) (.cons (f := "at") ⟨rfl, by decide, Or.inl T.em_BadSyntax⟩ T.is_BadSyntax T.it_BadSyntax (suite_pair rfl) .nil)) (fun W pn xe TW HP => qs_one (qs_drop (qe_stat G_Console_replayed rfl (hr.mono (by first | exact Nat.le_refl _ | omega)) TW (by rfl) T.m_Console (qa_cons (qe_loc 0) (qa_nil)) 1 rfl (evLen_cons evLen_nil))))) (qs_one (qs_ret (qe_non)))
abbrev s_Console_log : Stmt := inClass (top 109) 2
def F_Console_log : List W → Sto → Res W := defn 2 (sRet (eMs fJoin (eLit (.str "")) (evCons (eComp 1000000 [1] (vSeq (eFld 2 "_commands" (eLoc 0))) (tgName 1) (bYes) (eBin wAdd (eLoc 1) (eLit (.str "\n")))) (evNil))))
theorem sc_Console_log : FnScope ["self", "command"] ["self"] (defScope s_Console_log) := ⟨rfl, rfl, rfl, by decide +kernel, rfl, by decide +kernel, by decide +kernel⟩
theorem ok_Console_log {f : Addr} {fd : FuncData} (F : L2.Fun K "log" "Console.log" s_Console_log f fd) (T : TX K mg cl ec fld) : FnOk P w K mg base (L2.CX P w) 1 f fd ["self"] (spF ⟨K, cl, ec, fld⟩ 1 F_Console_log) := by
  refine q_ok F sc_Console_log rfl rfl fun b q cdv A outer s H E hr => ?_
  have TK := takes_of (X := cxOf (L2.CX P w) P w K mg base ["self", "command"] "Console.log" (defScope s_Console_log) f cdv A outer s H E) rfl rfl rfl rfl
  exact qs_one (qs_ret (qe_ms PySem.F.slot_str_join PySem.F.type_str_join mt_join (mos_join rfl) (qe_str) (qa_cons (qe_comp (own := [("command", 1)]) (n := 1000000) rfl (sc_Console_log).nd (qi_seq rfl (qe_fld rfl T.c_Console.cl T.na_Console__commands (qe_loc 0))) (by change BlkOk ["self", "command"] (defScope s_Console_log) _ _; exact blkOk_by (by decide +kernel)) (fun _ _ _ _ _ => pg_name (i := 1) (sc_Console_log).nd rfl (by first | exact Or.inl rfl | exact Or.inr rfl)) (ct_name (by decide)) (fun _ _ _ _ _ => qc_nil) (fun _ _ _ _ _ => q_add rfl (qe_loc 1) (qe_str))) (qa_nil))))
abbrev s__law_text_of : Stmt := top 132
def F__law_text_of : List W → Sto → Res W := defn 2 (sRet (eMs fJoin (eLit (.str "")) (evCons (eComp 1000000 [1] (vSeq (eLoc 0)) (tgName 1) (bYes) (eBin wAdd (eLoc 1) (eLit (.str "\n")))) (evNil))))
theorem sc__law_text_of : FnScope ["rows", "one"] ["rows"] (defScope s__law_text_of) := ⟨rfl, rfl, rfl, by decide +kernel, rfl, by decide +kernel, by decide +kernel⟩
theorem ok__law_text_of {f : Addr} {fd : FuncData} (F : L2.Fun K "_law_text_of" "_law_text_of" s__law_text_of f fd) (T : TX K mg cl ec fld) : FnOk P w K mg base (L2.CX P w) 1 f fd ["rows"] (spF ⟨K, cl, ec, fld⟩ 1 F__law_text_of) := by
  refine q_ok F sc__law_text_of rfl rfl fun b q cdv A outer s H E hr => ?_
  have TK := takes_of (X := cxOf (L2.CX P w) P w K mg base ["rows", "one"] "_law_text_of" (defScope s__law_text_of) f cdv A outer s H E) rfl rfl rfl rfl
  exact qs_one (qs_ret (qe_ms PySem.F.slot_str_join PySem.F.type_str_join mt_join (mos_join rfl) (qe_str) (qa_cons (qe_comp (own := [("one", 1)]) (n := 1000000) rfl (sc__law_text_of).nd (qi_seq rfl (qe_loc 0)) (by change BlkOk ["rows", "one"] (defScope s__law_text_of) _ _; exact blkOk_by (by decide +kernel)) (fun _ _ _ _ _ => pg_name (i := 1) (sc__law_text_of).nd rfl (by first | exact Or.inl rfl | exact Or.inr rfl)) (ct_name (by decide)) (fun _ _ _ _ _ => qc_nil) (fun _ _ _ _ _ => q_add rfl (qe_loc 1) (qe_str))) (qa_nil))))
abbrev s__law_no_command : Stmt := top 135
def F__law_no_command : List W → Sto → Res W := defn 3 (sSeq (sSet (tgName 2) (eLst (evCons (eLit (.str "")) (evCons (eLit (.str "race")) (evCons (eLit (.str "race a")) (evCons (eLit (.str "race a 2 level absent - cuts")) (evCons (eLit (.str "race a 2 even absent - cuts 0,0")) (evCons (eLit (.str "race a 2 level absent cuts 0,0")) (evCons (eLit (.str "race A 2 level absent - cuts 0,0")) (evNil)))))))))) (sSeq (sSet (tgName 2) (eBin wAdd (eLoc 2) (eLst (evCons (eLit (.str "race a 02 level absent - cuts 0,0")) (evCons (eLit (.str "race a 2 level absent - cuts -")) (evNil)))))) (sSeq (sSet (tgName 2) (eBin wAdd (eLoc 2) (eLst (evCons (eLit (.str "race a 2 level absent 0, cuts 0,0")) (evCons (eLit (.str "show")) (evCons (eLit (.str "show a b")) (evCons (eLit (.str "outcomes")) (evCons (eLit (.str "sure a")) (evCons (eLit (.str "sure a top1:0")) (evCons (eLit (.str "sure a top1:0@3/2")) (evCons (eLit (.str "sure a top1:@3/2+")) (evCons (eLit (.str "sure a top1:0@3+")) (evNil))))))))))))) (sSeq (sSet (tgName 2) (eBin wAdd (eLoc 2) (eLst (evCons (eLit (.str "sure a top1:0@3/2+ ")) (evCons (eLit (.str "top a")) (evCons (eLit (.str "top a top1:0@1/1+")) (evNil))))))) (sSeq (sSet (tgName 2) (eBin wAdd (eLoc 2) (eLst (evCons (eLit (.str "low a")) (evCons (eLit (.str "low a row:")) (evCons (eLit (.str "comes 1/10 1/100")) (evCons (eLit (.str "comes 1/0 1/100 1/1")) (evCons (eLit (.str "comes 1/10 1/100 1")) (evCons (eLit (.str "comes 1/10 1/100 1/1,")) (evCons (eLit (.str "least 1/10 1/100 -,1/0")) (evCons (eLit (.str "least 1 1/100 1/1")) (evNil)))))))))))) (sSeq (sSet (tgName 2) (eBin wAdd (eLoc 2) (eLst (evCons (eLit (.str "help")) (evCons (eLit (.str " show a")) (evCons (eLit (.str "show a ")) (evCons (eLit (.str "show abcdefghijklm")) (evCons (eLit (.str "sure a  top1:0@3/2+")) (evNil))))))))) (sSeq (sSet (tgName 2) (eBin wAdd (eLoc 2) (eLst (evCons (eLit (.str "sure a top1:0@10000/1+")) (evCons (eLit (.str "sure a top:0@3/2+")) (evCons (eLit (.str "comes -1/10 1/100 1/1")) (evNil))))))) (sRet (eBin wIx (eLoc 2) (eCall (F__law_take) [] (evCons (eLoc 0) (evCons (eLoc 1) (evCons (eB fLen (evCons (eLoc 2) (evNil))) (evNil))))))))))))))
theorem sc__law_no_command : FnScope ["row", "spot", "wrong"] ["row", "spot"] (defScope s__law_no_command) := ⟨rfl, rfl, rfl, by decide +kernel, rfl, by decide +kernel, by decide +kernel⟩
theorem ok__law_no_command {f : Addr} {fd : FuncData} (F : L2.Fun K "_law_no_command" "_law_no_command" s__law_no_command f fd) (T : TX K mg cl ec fld) (G__law_take : Fn ⟨K, cl, ec, fld⟩ P w mg base 2 "_law_take" 3 [] F__law_take) : FnOk P w K mg base (L2.CX P w) 3 f fd ["row", "spot"] (spF ⟨K, cl, ec, fld⟩ 2 F__law_no_command) := by
  refine q_ok F sc__law_no_command rfl rfl fun b q cdv A outer s H E hr => ?_
  have TK := takes_of (X := cxOf (L2.CX P w) P w K mg base ["row", "spot", "wrong"] "_law_no_command" (defScope s__law_no_command) f cdv A outer s H E) rfl rfl rfl rfl
  exact qs_cons (qs_set (qe_lst (qa_cons (qe_str) (qa_cons (qe_str) (qa_cons (qe_str) (qa_cons (qe_str) (qa_cons (qe_str) (qa_cons (qe_str) (qa_cons (qe_str) (qa_nil))))))))) (qg_name (i := 2) (sc__law_no_command).nd rfl (by first | exact Or.inl rfl | exact Or.inr rfl))) (qs_cons (qs_set (q_add rfl (qe_loc 2) (qe_lst (qa_cons (qe_str) (qa_cons (qe_str) (qa_nil))))) (qg_name (i := 2) (sc__law_no_command).nd rfl (by first | exact Or.inl rfl | exact Or.inr rfl))) (qs_cons (qs_set (q_add rfl (qe_loc 2) (qe_lst (qa_cons (qe_str) (qa_cons (qe_str) (qa_cons (qe_str) (qa_cons (qe_str) (qa_cons (qe_str) (qa_cons (qe_str) (qa_cons (qe_str) (qa_cons (qe_str) (qa_cons (qe_str) (qa_nil)))))))))))) (qg_name (i := 2) (sc__law_no_command).nd rfl (by first | exact Or.inl rfl | exact Or.inr rfl))) (qs_cons (qs_set (q_add rfl (qe_loc 2) (qe_lst (qa_cons (qe_str) (qa_cons (qe_str) (qa_cons (qe_str) (qa_nil)))))) (qg_name (i := 2) (sc__law_no_command).nd rfl (by first | exact Or.inl rfl | exact Or.inr rfl))) (qs_cons (qs_set (q_add rfl (qe_loc 2) (qe_lst (qa_cons (qe_str) (qa_cons (qe_str) (qa_cons (qe_str) (qa_cons (qe_str) (qa_cons (qe_str) (qa_cons (qe_str) (qa_cons (qe_str) (qa_cons (qe_str) (qa_nil))))))))))) (qg_name (i := 2) (sc__law_no_command).nd rfl (by first | exact Or.inl rfl | exact Or.inr rfl))) (qs_cons (qs_set (q_add rfl (qe_loc 2) (qe_lst (qa_cons (qe_str) (qa_cons (qe_str) (qa_cons (qe_str) (qa_cons (qe_str) (qa_cons (qe_str) (qa_nil)))))))) (qg_name (i := 2) (sc__law_no_command).nd rfl (by first | exact Or.inl rfl | exact Or.inr rfl))) (qs_cons (qs_set (q_add rfl (qe_loc 2) (qe_lst (qa_cons (qe_str) (qa_cons (qe_str) (qa_cons (qe_str) (qa_nil)))))) (qg_name (i := 2) (sc__law_no_command).nd rfl (by first | exact Or.inl rfl | exact Or.inr rfl))) (qs_one (qs_ret (qe_ix rfl (qe_loc 2) (qe_call1 G__law_take rfl (hr.mono (by first | exact Nat.le_refl _ | omega)) TK (by rfl) (qa_cons (qe_loc 0) (qa_cons (qe_loc 1) (qa_cons (qe_blt call_len (ok_len rfl) (by rfl) T.b_len (by decide +kernel) (qa_cons (qe_loc 2) (qa_nil))) (qa_nil)))) 3 rfl (evLen_cons (evLen_cons (evLen_cons evLen_nil)))))))))))))
abbrev s_law : Stmt := top 136
def F_law : List W → Sto → Res W := defn 7 (sSeq (sSet (tgName 1) (eCall (F__law_numbers) [] (evCons (eLoc 0) (evNil)))) (sSeq (sSet (tgName 2) (eLst (evCons (eLit (.int 0)) (evNil)))) (sSeq (sSet (tgName 3) (eComp 1000000 [6] (vRng1 (evCons (eCall (F__law_take) [] (evCons (eLoc 1) (evCons (eLoc 2) (evCons (eLit (.int 9)) (evNil))))) (evNil))) (tgName 6) (bYes) (eCall (F__law_command) [] (evCons (eLoc 1) (evCons (eLoc 2) (evNil)))))) (sSeq (sIf (bOr (bVal (eBin wNotN (eCall (F__law_replay_fault) [] (evCons (eCall (F__law_text_of) [] (evCons (eLoc 3) (evNil))) (evNil))) (eLit .non))) (bVal (eBin wNotN (eCall (F__law_replay_fault) [] (evCons (eLit (.str "")) (evNil))) (eLit .non)))) (sRet (eLit (.bl false))) (sNil)) (sSeq (sIf (bVal (eBin wNe (eCall (F__law_replay_fault) [] (evCons (eBin wIx (eLst (evCons (eLit .non) (evCons (eLit (.int 5)) (evCons (eTup (evCons (eLit (.str "a")) (evNil))) (evNil))))) (eCall (F__law_take) [] (evCons (eLoc 1) (evCons (eLoc 2) (evCons (eLit (.int 3)) (evNil)))))) (evNil))) (eTup (evCons (eLit (.str "value")) (evCons (eLit (.int 1)) (evNil)))))) (sRet (eLit (.bl false))) (sNil)) (sSeq (sSet (tgName 4) (eCall (F__law_take) [] (evCons (eLoc 1) (evCons (eLoc 2) (evCons (eBin wAdd (eB fLen (evCons (eLoc 3) (evNil))) (eLit (.int 1))) (evNil)))))) (sSeq (sSet (tgName 5) (eBin wAdd (eBin wAdd (eSl (eLoc 3) (poNone) (poSome (eLoc 4))) (eLst (evCons (eCall (F__law_no_command) [] (evCons (eLoc 1) (evCons (eLoc 2) (evNil)))) (evNil)))) (eSl (eLoc 3) (poSome (eLoc 4)) (poNone)))) (sSeq (sIf (bOr (bVal (eBin wNe (eCall (F__law_replay_fault) [] (evCons (eCall (F__law_text_of) [] (evCons (eLoc 5) (evNil))) (evNil))) (eTup (evCons (eLit (.str "syntax")) (evCons (eLoc 4) (evNil)))))) (bVal (eBin wNe (eCall (F__law_replay_fault) [] (evCons (eBin wAdd (eCall (F__law_text_of) [] (evCons (eLoc 5) (evNil))) (eLit (.str "show"))) (evNil))) (eTup (evCons (eLit (.str "syntax")) (evCons (eLoc 4) (evNil))))))) (sRet (eLit (.bl false))) (sNil)) (sSeq (sIf (bVal (eBin wEq (eB fLen (evCons (eLoc 3) (evNil))) (eLit (.int 0)))) (sRet (eBin wEq (eMeth 2 "log" F_Console_log (eCall F_Console_replayed [] (evCons (eLit (.str "")) (evNil))) (evNil)) (eLit (.str "")))) (sNil)) (sRet (eBin wEq (eCall (F__law_replay_fault) [] (evCons (eSlT (eCall (F__law_text_of) [] (evCons (eLoc 3) (evNil))) (poNone) (poSome (eU wNeg (eLit (.int 1))))) (evNil))) (eTup (evCons (eLit (.str "syntax")) (evCons (eBin wSub (eB fLen (evCons (eLoc 3) (evNil))) (eLit (.int 1))) (evNil)))))))))))))))
theorem sc_law : FnScope ["script", "row", "spot", "rows", "at", "wrong", "k"] ["script"] (defScope s_law) := ⟨rfl, rfl, rfl, by decide +kernel, rfl, by decide +kernel, by decide +kernel⟩
theorem ok_law {f : Addr} {fd : FuncData} (F : L2.Fun K "law" "law" s_law f fd) (T : TX K mg cl ec fld) (G__law_numbers : Fn ⟨K, cl, ec, fld⟩ P w mg base 1 "_law_numbers" 1 [] F__law_numbers) (G__law_take : Fn ⟨K, cl, ec, fld⟩ P w mg base 2 "_law_take" 3 [] F__law_take) (G__law_command : Fn ⟨K, cl, ec, fld⟩ P w mg base 3 "_law_command" 2 [] F__law_command) (G__law_replay_fault : Fn ⟨K, cl, ec, fld⟩ P w mg base 15 "_law_replay_fault" 1 [] F__law_replay_fault) (G_Console_log : FnM ⟨K, cl, ec, fld⟩ P w mg base 1 "log" 2 1 F_Console_log) (G__law_text_of : Fn ⟨K, cl, ec, fld⟩ P w mg base 1 "_law_text_of" 1 [] F__law_text_of) (G__law_no_command : Fn ⟨K, cl, ec, fld⟩ P w mg base 3 "_law_no_command" 2 [] F__law_no_command) (G_Console_replayed : FnS ⟨K, cl, ec, fld⟩ P w mg base 13 "replayed" 2 1 F_Console_replayed) : FnOk P w K mg base (L2.CX P w) 16 f fd ["script"] (spF ⟨K, cl, ec, fld⟩ 1 F_law) := by
  refine q_ok F sc_law rfl rfl fun b q cdv A outer s H E hr => ?_
  have TK := takes_of (X := cxOf (L2.CX P w) P w K mg base ["script", "row", "spot", "rows", "at", "wrong", "k"] "law" (defScope s_law) f cdv A outer s H E) rfl rfl rfl rfl
  exact qs_cons (qs_set (qe_call1 G__law_numbers rfl (hr.mono (by first | exact Nat.le_refl _ | omega)) TK (by rfl) (qa_cons (qe_loc 0) (qa_nil)) 1 rfl (evLen_cons evLen_nil)) (qg_name (i := 1) (sc_law).nd rfl (by first | exact Or.inl rfl | exact Or.inr rfl))) (qs_cons (qs_set (qe_lst (qa_cons (qe_int) (qa_nil))) (qg_name (i := 2) (sc_law).nd rfl (by first | exact Or.inl rfl | exact Or.inr rfl))) (qs_cons (qs_comp (own := [("k", 6)]) (n := 1000000) (i := 3) rfl (sc_law).nd rfl rfl rfl (qi_rng1 (by rfl) T.b_range (qa_cons (qe_call1 G__law_take rfl (hr.mono (by first | exact Nat.le_refl _ | omega)) TK (by rfl) (qa_cons (qe_loc 1) (qa_cons (qe_loc 2) (qa_cons (qe_int) (qa_nil)))) 3 rfl (evLen_cons (evLen_cons (evLen_cons evLen_nil)))) (qa_nil))) (by change BlkOk ["script", "row", "spot", "rows", "at", "wrong", "k"] (defScope s_law) _ _; exact blkOk_by (by decide +kernel)) (fun _ _ _ _ _ => pg_name (i := 6) (sc_law).nd rfl (by first | exact Or.inl rfl | exact Or.inr rfl)) (ct_name (by decide)) (fun _ _ _ _ _ => qc_nil) (fun _ _ _ _ _ => qe_call1 G__law_command rfl (hr.mono (by first | exact Nat.le_refl _ | omega)) (takesX (CX := L2.CX P w)) (by rfl) (qa_cons (qe_loc 1) (qa_cons (qe_loc 2) (qa_nil))) 2 rfl (evLen_cons (evLen_cons evLen_nil)))) (qs_cons (qs_if (qw_pt (qw_or (t_cmp c_isNot (qe_call1 G__law_replay_fault rfl (hr.mono (by first | exact Nat.le_refl _ | omega)) TK (by rfl) (qa_cons (qe_call1 G__law_text_of rfl (hr.mono (by first | exact Nat.le_refl _ | omega)) TK (by rfl) (qa_cons (qe_loc 3) (qa_nil)) 1 rfl (evLen_cons evLen_nil)) (qa_nil)) 1 rfl (evLen_cons evLen_nil)) (qe_non)) (qw_or1 (t_cmp c_isNot (qe_call1 G__law_replay_fault rfl (hr.mono (by first | exact Nat.le_refl _ | omega)) TK (by rfl) (qa_cons (qe_str) (qa_nil)) 1 rfl (evLen_cons evLen_nil)) (qe_non))))) (qs_one (qs_ret (qe_bl))) (qs_nil)) (qs_cons (qs_if (t_cmp (c_ne rfl hr) (qe_call1 G__law_replay_fault rfl (hr.mono (by first | exact Nat.le_refl _ | omega)) TK (by rfl) (qa_cons (qe_ix rfl (qe_lst (qa_cons (qe_non) (qa_cons (qe_int) (qa_cons (qe_tup (qa_cons (qe_str) (qa_nil))) (qa_nil))))) (qe_call1 G__law_take rfl (hr.mono (by first | exact Nat.le_refl _ | omega)) TK (by rfl) (qa_cons (qe_loc 1) (qa_cons (qe_loc 2) (qa_cons (qe_int) (qa_nil)))) 3 rfl (evLen_cons (evLen_cons (evLen_cons evLen_nil))))) (qa_nil)) 1 rfl (evLen_cons evLen_nil)) (qe_tup (qa_cons (qe_str) (qa_cons (qe_int) (qa_nil))))) (qs_one (qs_ret (qe_bl))) (qs_nil)) (qs_cons (qs_set (qe_call1 G__law_take rfl (hr.mono (by first | exact Nat.le_refl _ | omega)) TK (by rfl) (qa_cons (qe_loc 1) (qa_cons (qe_loc 2) (qa_cons (q_add rfl (qe_blt call_len (ok_len rfl) (by rfl) T.b_len (by decide +kernel) (qa_cons (qe_loc 3) (qa_nil))) (qe_int)) (qa_nil)))) 3 rfl (evLen_cons (evLen_cons (evLen_cons evLen_nil)))) (qg_name (i := 4) (sc_law).nd rfl (by first | exact Or.inl rfl | exact Or.inr rfl))) (qs_cons (qs_set (q_add rfl (q_add rfl (qe_sl rfl (qe_loc 3) (qo_none) (qo_some (qe_loc 4))) (qe_lst (qa_cons (qe_call1 G__law_no_command rfl (hr.mono (by first | exact Nat.le_refl _ | omega)) TK (by rfl) (qa_cons (qe_loc 1) (qa_cons (qe_loc 2) (qa_nil))) 2 rfl (evLen_cons (evLen_cons evLen_nil))) (qa_nil)))) (qe_sl rfl (qe_loc 3) (qo_some (qe_loc 4)) (qo_none))) (qg_name (i := 5) (sc_law).nd rfl (by first | exact Or.inl rfl | exact Or.inr rfl))) (qs_cons (qs_if (qw_pt (qw_or (t_cmp (c_ne rfl hr) (qe_call1 G__law_replay_fault rfl (hr.mono (by first | exact Nat.le_refl _ | omega)) TK (by rfl) (qa_cons (qe_call1 G__law_text_of rfl (hr.mono (by first | exact Nat.le_refl _ | omega)) TK (by rfl) (qa_cons (qe_loc 5) (qa_nil)) 1 rfl (evLen_cons evLen_nil)) (qa_nil)) 1 rfl (evLen_cons evLen_nil)) (qe_tup (qa_cons (qe_str) (qa_cons (qe_loc 4) (qa_nil))))) (qw_or1 (t_cmp (c_ne rfl hr) (qe_call1 G__law_replay_fault rfl (hr.mono (by first | exact Nat.le_refl _ | omega)) TK (by rfl) (qa_cons (q_add rfl (qe_call1 G__law_text_of rfl (hr.mono (by first | exact Nat.le_refl _ | omega)) TK (by rfl) (qa_cons (qe_loc 5) (qa_nil)) 1 rfl (evLen_cons evLen_nil)) (qe_str)) (qa_nil)) 1 rfl (evLen_cons evLen_nil)) (qe_tup (qa_cons (qe_str) (qa_cons (qe_loc 4) (qa_nil)))))))) (qs_one (qs_ret (qe_bl))) (qs_nil)) (qs_cons (qs_if (t_cmp (c_eq rfl hr) (qe_blt call_len (ok_len rfl) (by rfl) T.b_len (by decide +kernel) (qa_cons (qe_loc 3) (qa_nil))) (qe_int)) (qs_one (qs_ret (q_cmp (c_eq rfl hr) (qe_meth0 G_Console_log rfl T.c_Console.cl (hr.mono (by first | exact Nat.le_refl _ | omega)) (qe_stat G_Console_replayed rfl (hr.mono (by first | exact Nat.le_refl _ | omega)) TK (by rfl) T.m_Console (qa_cons (qe_str) (qa_nil)) 1 rfl (evLen_cons evLen_nil))) (qe_str)))) (qs_nil)) (qs_one (qs_ret (q_cmp (c_eq rfl hr) (qe_call1 G__law_replay_fault rfl (hr.mono (by first | exact Nat.le_refl _ | omega)) TK (by rfl) (qa_cons (qe_slT (qe_call1 G__law_text_of rfl (hr.mono (by first | exact Nat.le_refl _ | omega)) TK (by rfl) (qa_cons (qe_loc 3) (qa_nil)) 1 rfl (evLen_cons evLen_nil)) (qo_none) (qo_some (qe_neg (qe_int)))) (qa_nil)) 1 rfl (evLen_cons evLen_nil)) (qe_tup (qa_cons (qe_str) (qa_cons (q_sub (qe_blt call_len (ok_len rfl) (by rfl) T.b_len (by decide +kernel) (qa_cons (qe_loc 3) (qa_nil))) (qe_int)) (qa_nil)))))))))))))))
end
end LW
namespace LW
open PySem RB
local macro_rules | `(tactic| exists $es,*) => `(tactic| simp (config := {decide := false, implicitDefEqProofs := false}) only [k_ok, k_exc, k_err, k_ite, k_iteS, k_nx, k_rt, k_loc, k_lit, k_nil, k_cons, k_tup, k_lst, k_bin, k_eB, k_eU, k_call, k_tru, k_not, k_and, k_or, k_if, k_eAnd, k_eOr, k_eNot, k_val, k_chain, k_sNil, k_sSeq, k_sSet, tgName, tgTup, tgCons, tgNil, Option.bind_some, k_sDrop, k_sRet, k_sRetN, k_sIf, k_sBreak, k_sCont, k_sFor, k_sRaise, k_sTry, k_defn, k_vSeq, k_rng1, k_comp,
  v_add, v_sub, v_mul, v_mod, v_div, v_lt, v_le, v_gt, v_ge, v_eq, v_ne, v_neg, v_int, v_min,
  List.map_cons, List.map_nil, List.length_cons, List.length_nil, List.replicate_succ, List.replicate_zero, List.cons_append, List.nil_append, List.append_nil, List.getElem?_cons_succ, List.getElem?_cons_zero, List.set_cons_succ, List.set_cons_zero,
  Nat.reduceAdd, Nat.reduceSub, Nat.zero_add, decide_eq_true_eq, Bool.not_eq_true', decide_eq_false_iff_not, Bool.true_eq_false, Bool.false_eq_true, if_true, if_false, ite_true, ite_false, ite_self, reduceIte, Nat.reduceLeDiff, true_and, and_true, $[$es:term],*])
theorem draw_ok {row : List Int} {p lim : Int} {c : List Cell} {r : Nat} (hr : c[r]? = some (.lst (row.map .int))) (hne : row ≠ []) (hp : 0 ≤ p) (hl : 0 < lim) (hrow : ∀ x ∈ row, 0 ≤ x ∧ x < 2147483648) (hat : p < 1000000000) :
    ∃ v, (0 ≤ v ∧ v < lim) ∧ F__law_draw [.ref r, .int p, .int lim] ⟨c, none⟩ = .ok (.int v) ⟨c, none⟩ := by
  have gl : seqOf ⟨c, none⟩ (.ref r) = some (row.map .int) := by show getL ⟨c, none⟩ r = _; unfold getL; simp only [hr]
  have ln : ∀ (X : XP) (P : W → Sto → Prop), Ok (fLen [.ref r] ⟨c, none⟩) X P = P (.int (row.length : Nat)) ⟨c, none⟩ := fun X P => by
    rw [v_lenL (by intro z h; cases h) gl, List.length_map]
  have ixq : ∀ (j : Int) (h0 : 0 ≤ j) (h1 : j < row.length) (X : XP) (P : W → Sto → Prop), Ok (wIx (.ref r) (.int j) ⟨c, none⟩) X P = P (.int (row[j.toNat]'(by omega))) ⟨c, none⟩ := fun j h0 h1 X P => by
    have h2 : j.toNat < row.length := by omega
    refine v_ix gl ?_
    rw [atI_in h0 (by rw [List.length_map]; exact h1), List.getElem?_map, List.getElem?_eq_getElem h2]
    rfl
  have hpos : 0 < row.length := List.length_pos_iff.mpr hne
  unfold F__law_draw
  by_cases hlt : p < (row.length : Int)
  · have e := ixq p hp hlt
    refine run_int ?_
    exists ln, hlt, e, hl
    rw [k_trim rfl, List.take_length]
    exact ⟨_, rfl, ⟨Int.emod_nonneg _ (by omega), Int.emod_lt_of_pos _ hl⟩, rfl⟩
  · have h3 : 0 ≤ p % (row.length : Int) := Int.emod_nonneg _ (by omega)
    have h4 : p % (row.length : Int) < row.length := Int.emod_lt_of_pos _ (by omega)
    have e := ixq _ h3 h4
    have hx := hrow _ (List.getElem_mem (l := row) (n := (p % (row.length : Int)).toNat) (by omega))
    generalize row[(p % (row.length : Int)).toNat] = x at hx e
    have m1 : mulOk x 40692 = true := mulOk_lt (m := 40) (n := 40) (by omega) (by decide) (by decide) (by decide) (by decide)
    have m2 : mulOk p 7919 = true := mulOk_lt (m := 40) (n := 40) (by omega) (by decide) (by decide) (by decide) (by decide)
    have m3 : mulOk ((x * 40692 + p * 7919 + 3) % 2147483399) 48271 = true := mulOk_lt (m := 40) (n := 40) (by omega) (by decide) (by decide) (by decide) (by decide)
    have q0 : 0 < (row.length : Int) := by omega
    refine run_int ?_
    exists ln, hlt, e, hl, m1, m2, m3, q0, (by decide : (0 : Int) < 2147483399), (by decide : (0 : Int) < 2147483647)
    rw [k_trim rfl, List.take_length]
    exact ⟨_, rfl, ⟨Int.emod_nonneg _ (by omega), Int.emod_lt_of_pos _ hl⟩, rfl⟩
set_option Elab.async false
set_option linter.all false
set_option maxRecDepth 100000
set_option maxHeartbeats 4000000
abbrev S (ns : List W) (row : List Int) (p : Int) (rest : List Cell) : Sto := ⟨.scr ns :: .lst (row.map .int) :: .lst [.int p] :: rest, none⟩
structure RowOk (row : List Int) : Prop where
  ne : row ≠ []
  bd : ∀ x ∈ row, 0 ≤ x ∧ x < 2147483648
section
variable {ns : List W} {row : List Int} {p : Int} {rest g : List Cell} {x y : Cell}
theorem S_len : (S ns row p rest).c.length = rest.length + 1 + 1 + 1 := rfl
theorem S_push : (S ns row p rest).push x = S ns row p (rest ++ [x]) := rfl
theorem S_get : (S ns row p (rest ++ x :: g)).c[rest.length + 1 + 1 + 1]? = some x := by
  show (rest ++ x :: g)[rest.length]? = some x
  rw [List.getElem?_append_right (Nat.le_refl _), Nat.sub_self]; rfl
theorem S_put : (S ns row p (rest ++ x :: g)).put (rest.length + 1 + 1 + 1) y true = S ns row p (rest ++ y :: g) := by
  show (⟨Cell.scr ns :: .lst (row.map .int) :: .lst [.int p] :: ((rest ++ x :: g).set rest.length y), none⟩ : Sto) = _
  rw [List.set_append_right _ _ (Nat.le_refl _), Nat.sub_self]; rfl
theorem S_cut : (S ns row p (rest ++ g)).cut (rest.length + 1 + 1 + 1) = S ns row p rest := by
  show (⟨(Cell.scr ns :: .lst (row.map .int) :: .lst [.int p] :: (rest ++ g)).take (rest.length + 1 + 1 + 1), none⟩ : Sto) = _
  simp
theorem S_trim {w : W} {X : XP} {P : W → Sto → Prop} (h : W.pure w = true) : Ok (trim (rest.length + 1 + 1 + 1) w (S ns row p (rest ++ g))) X P = P w (S ns row p rest) := by
  rw [k_trim h]
  have := S_cut (ns := ns) (row := row) (p := p) (rest := rest) (g := g)
  unfold Sto.cut at this
  rw [this]
theorem S_trim0 {w : W} {X : XP} {P : W → Sto → Prop} (h : W.pure w = true) : Ok (trim (rest.length + 1 + 1 + 1) w (S ns row p rest)) X P = P w (S ns row p rest) := by
  have := S_trim (ns := ns) (row := row) (p := p) (rest := rest) (g := []) (X := X) (P := P) h
  rwa [List.append_nil] at this
theorem take_ok (R : RowOk row) (hp : 0 ≤ p) (hat : p < 100000000) {lim : Int} (hl : 0 < lim) :
    ∃ v, (0 ≤ v ∧ v < lim) ∧ F__law_take [.ref 1, .ref 2, .int lim] (S ns row p rest) = .ok (.int v) (S ns row (p + 1) rest) := by
  obtain ⟨v, hv, e⟩ := draw_ok (c := (S ns row (p + 1) rest).c) (r := 1) (row := row) (p := p) rfl R.ne hp hl R.bd (by omega)
  have e1 : p + 1 - 1 = p := by omega
  refine ⟨v, hv, run_eq ?_⟩
  unfold F__law_take
  have ix0 : ∀ (q : Int) (X : XP) (P : W → Sto → Prop), Ok (wIx (.ref 2) (.int 0) (S ns row q rest)) X P = P (.int q) (S ns row q rest) := fun q X P => v_ix (ws := [.int q]) rfl rfl
  have iw : ∀ (q : Int) (l : Lo) (D : Po4), OkS (sIxW (eLoc 1) (eLit (.int 0)) (eBin wAdd (eBin wIx (eLoc 1) (eLit (.int 0))) (eLit (.int 1))) (some (.ref 1) :: some (.ref 2) :: l) (S ns row q rest)) D = D.nx (some (.ref 1) :: some (.ref 2) :: l) (S ns row (q + 1) rest) := fun q l D => rfl
  have e' : ∀ (X : XP) (P : W → Sto → Prop), Ok (F__law_draw [.ref 1, .int p, .int lim] (S ns row (p + 1) rest)) X P = P (.int v) (S ns row (p + 1) rest) := fun X P => by rw [e]; rfl
  exists iw, ix0, e1, e', S_len
  rw [S_trim0 rfl]
  exact ⟨rfl, rfl⟩
end
theorem run_ex {α : Type} {r : Res α} {Q : α → Sto → Prop} (h : Ok r (fun _ _ _ => False) Q) : ∃ a t, r = .ok a t ∧ Q a t := by
  cases r with
  | ok b t => exact ⟨b, t, rfl, h⟩
  | exc c p t => exact h.elim
  | err => exact h.elim
theorem kk {α : Type} {r : Res α} {a : α} {t : Sto} (h : r = .ok a t) (X : XP) (P : α → Sto → Prop) : Ok r X P = P a t := by rw [h]; rfl
section
variable {ns : List W} {row : List Int} {p : Int} {rest g : List Cell} {x y : Cell}
theorem takeK (R : RowOk row) (hp : 0 ≤ p) (hat : p < 100000000) (rest : List Cell) {lim : Int} (hl : 0 < lim) :
    ∃ v, (0 ≤ v ∧ v < lim) ∧ ∀ (X : XP) (P : W → Sto → Prop), Ok (F__law_take [.ref 1, .ref 2, .int lim] (S ns row p rest)) X P = P (.int v) (S ns row (p + 1) rest) := by
  obtain ⟨v, h, e⟩ := take_ok (ns := ns) (rest := rest) R hp hat hl
  exact ⟨v, h, kk e⟩
theorem up_len (lo : Int) : ∀ n : Nat, (upFrom lo n).length = n
  | 0 => rfl
  | n + 1 => by show (upFrom (lo + 1) n).length + 1 = n + 1; rw [up_len (lo + 1) n]
theorem up_get {n i : Nat} {w : W} (h : (upFrom 0 n)[i]? = some w) : i < n ∧ w = .int (i : Nat) := by
  rw [upFrom_get] at h
  split at h
  · rename_i q; cases h; exact ⟨q, by rw [Int.zero_add]⟩
  · cases h
def cutsOk (n : Nat) (cu : List Int) : Prop := cu = [] ∨ (cu.length = n ∧ ∀ x ∈ cu, 0 ≤ x ∧ x ≤ 90)
def absL (n : Nat) (f : Nat → Bool) : List W := ((List.range n).filter f).map fun k => .int (k : Nat)
theorem ints_pure : ∀ l : List Int, W.pures (l.map W.int) = true
  | [] => rfl
  | a :: r => by show (W.pure (W.int _) && W.pures _) = true; rw [ints_pure r]; rfl
end
theorem k_eMt {F : W → List W → Sto → Res W} {o : Ev} {a : Evs} {l : Lo} {st : Sto} {X : XP} {P : W → Sto → Prop} : Ok (eMt F o a l st) X P = Ok (o l st) X fun x st1 => if isL st1 x = true then Ok (a l st1) X fun ws st2 => Ok (F x ws st2) X P else False := by
  unfold eMt; simp only [k_bind, k_ite, k_err]
abbrev N3 (c0 c2 : Cell) (row : List Int) : Sto := ⟨[c0, .lst (row.map .int), c2], none⟩
theorem app1 {c0 c2 : Cell} {row : List Int} {y : Int} {X : XP} {P : W → Sto → Prop} (h : row.length < 1000000) : Ok (fAppend (.ref 1) [.int y] (N3 c0 c2 row)) X P = P .non (N3 c0 c2 (row ++ [y])) := by
  show Ok (if (row.map W.int).length < 1000000 then _ else _) X P = _
  rw [if_pos (by rw [List.length_map]; exact h)]
  show P .non ⟨[c0, .lst (row.map .int ++ [.int y]), c2], none⟩ = P .non ⟨[c0, .lst ((row ++ [y]).map .int), c2], none⟩
  rw [List.map_append]; rfl
theorem isL1 {c0 c2 : Cell} {row : List Int} : isL (N3 c0 c2 row) (.ref 1) = true := rfl
theorem mul_big {a b : Int} (h : Builtin.Int.intBits a ≤ 1048576) (hb : b.natAbs.log2 < 1000) : mulOk a b = true := by
  unfold mulOk
  have : a.natAbs.log2 ≤ 1048576 := by
    unfold Builtin.Int.intBits at h
    split at h
    · rename_i e; rw [beq_iff_eq] at e; subst e; decide
    · omega
  exact decide_eq_true (by omega)
def Bd (row : List Int) : Prop := ∀ x ∈ row, 0 ≤ x ∧ x < 2147483648
theorem Bd.snoc {row : List Int} {y : Int} (h : Bd row) (h0 : 0 ≤ y) (h1 : y < 2147483648) : Bd (row ++ [y]) := fun x hx => by
  rcases List.mem_append.mp hx with q | q
  · exact h x q
  · rw [List.mem_singleton.mp q]; exact ⟨h0, h1⟩
theorem numbers_ok {ns : List Int} (hl : ns.length ≤ 63) (hb : ∀ z ∈ ns, Builtin.Int.intBits z ≤ 1048576) : ∃ row, RowOk row ∧ F__law_numbers [.ref 0] ⟨[.scr (ns.map .int)], none⟩ = .ok (.ref 1) ⟨[.scr (ns.map .int), .lst (row.map .int)], none⟩ := by
  suffices h : Ok (F__law_numbers [.ref 0] ⟨[.scr (ns.map .int)], none⟩) (fun _ _ _ => False) fun a st => ∃ row, RowOk row ∧ a = .ref 1 ∧ st = ⟨[.scr (ns.map .int), .lst (row.map .int)], none⟩ by
    obtain ⟨a, st, e, row, q1, rfl, rfl⟩ := run_ex h
    exact ⟨row, q1, e⟩
  unfold F__law_numbers
  have hsl : ∀ (X : XP) (P : W → Sto → Prop), Ok (eSl (eLoc 0) poNone (poSome (eLit (.int 63))) [some (.ref 0), some (.ref 1), none, none, none, none] ⟨[.scr (ns.map .int), .lst []], none⟩) X P = P (.ref 2) (N3 (.scr (ns.map .int)) (.lst (ns.map .int)) []) := fun X P => by
    show P (.ref 2) ⟨[.scr (ns.map .int), .lst [], .lst (cutW (ns.map W.int) none (some 63))], none⟩ = _
    have : cutW (ns.map W.int) none (some 63) = ns.map W.int := by
      unfold cutW
      have e1 : HT.sIx (ns.map W.int).length 0 none = 0 := rfl
      have e2 : HT.sIx (ns.map W.int).length (ns.map W.int).length (some 63) = (ns.map W.int).length := by
        rw [List.length_map]
        show min 63 ns.length = ns.length
        omega
      rw [e1, e2, List.drop_zero, Nat.sub_zero, List.take_length]
    rw [this]; rfl
  generalize hT : sSeq (sIf (bVal (eBin wEq (eB fLen (evCons (eLoc 1) evNil)) (eLit (.int 0)))) _ _) _ = T
  exists hsl, (Nat.zero_le _ : ([] : List W).length ≤ 1000), Sto.push, k_eMt
  show OkS (loopF (Src.live 2) _ _ _ _ _ _) _
  have p1 : ∀ (l : Lo) (st : Sto) (X : XP) (P : W → Sto → Prop), Ok (eBin wPow (eLit (.int 10)) (eLit (.int 18)) l st) X P = P (.int 1000000000000000000) st := fun l st X P => by
    rw [k_bin, k_lit, k_lit]
    have : wPow (.int 10) (.int 18) st = .ok (.int 1000000000000000000) st := by unfold wPow; rfl
    rw [this]; rfl
  refine loop_fix (ns.map .int) (fun i l st => ∃ (row : List Int) (a b c d : Option W), Bd row ∧ row.length ≤ 60 * i ∧ l = [some (.ref 0), some (.ref 1), a, b, c, d] ∧ st = N3 (.scr (ns.map .int)) (.lst (ns.map .int)) row) ?_ ?_ ?_ 1000000 0 _ _ (by rw [List.length_map]; omega) (Nat.zero_le _) ⟨[], _, _, _, _, (by intro x hx; cases hx), by simp, rfl, rfl⟩
  · rintro i l st ⟨row, a, b, c, d, _, _, _, rfl⟩
    rfl
  · rintro i w l st hw ⟨row, a, b, c, d, hB, hlen, rfl, rfl⟩
    refine ⟨_, rfl, ?_⟩
    have hi : i < ns.length := by have := (List.getElem?_eq_some_iff.mp hw).1; rwa [List.length_map] at this
    obtain ⟨z, hz, rfl⟩ : ∃ z, z ∈ ns ∧ w = .int z := by
      rw [List.getElem?_map] at hw
      cases e : ns[i]? with
      | none => rw [e] at hw; cases hw
      | some z => rw [e] at hw; cases hw; exact ⟨z, List.mem_of_getElem? e, rfl⟩
    exists p1, (by decide : (-1000000 : Int) ≤ 60), (by decide : (60 : Int) ≤ 1000000), (by decide : (-1000000 : Int) ≤ 4), (by decide : (4 : Int) ≤ 1000000)
    by_cases hz18 : 1000000000000000000 ≤ z
    · rw [if_pos hz18]
      refine loop_fix (upFrom 0 60) (fun j l st => ∃ (row : List Int) (left : Int) (c d : Option W), Bd row ∧ row.length ≤ 60 * i + j ∧ l = [some (.ref 0), some (.ref 1), some (.int z), some (.int left), c, d] ∧ st = N3 (.scr (ns.map .int)) (.lst (ns.map .int)) row) (fun _ _ _ _ => rfl) ?_ ?_ 1000000 0 _ _ (by rw [up_len]; omega) (Nat.zero_le _) ⟨row, z, c, d, hB, by omega, rfl, rfl⟩
      · rintro j w l st hw ⟨row, left, c, d, hB, hlen, rfl, rfl⟩
        obtain ⟨hj, rfl⟩ := up_get hw
        refine ⟨_, rfl, ?_⟩
        have hd : divOk 997 = true := by decide
        exists k_eMt, isL1, app1 (show row.length < 1000000 by omega), hd, (by decide : (0 : Int) < 997)
        by_cases h0 : left = 0
        · rw [if_pos h0]
          exact ⟨row, _, _, _, _, hB, by omega, rfl, rfl⟩
        · rw [if_neg h0]
          exact ⟨_, _, _, _, hB.snoc (Int.emod_nonneg _ (by decide)) (Int.lt_trans (Int.emod_lt_of_pos _ (by decide)) (by decide)), by rw [List.length_append]; simp; omega, rfl, rfl⟩
      · rintro l st ⟨row, left, c, d, hB, hlen, rfl, rfl⟩
        rw [up_len] at hlen
        exact ⟨row, _, _, _, _, hB, by omega, rfl, rfl⟩
    · rw [if_neg hz18]
      refine loop_fix (upFrom 0 4) (fun j l st => ∃ (row : List Int) (b c d : Option W), Bd row ∧ row.length ≤ 60 * i + j ∧ l = [some (.ref 0), some (.ref 1), some (.int z), b, c, d] ∧ st = N3 (.scr (ns.map .int)) (.lst (ns.map .int)) row) (fun _ _ _ _ => rfl) ?_ ?_ 1000000 0 _ _ (by rw [up_len]; omega) (Nat.zero_le _) ⟨row, b, c, d, hB, by omega, rfl, rfl⟩
      · rintro j w l st hw ⟨row, b, c, d, hB, hlen, rfl, rfl⟩
        obtain ⟨hj, rfl⟩ := up_get hw
        refine ⟨_, rfl, ?_⟩
        have m1 : mulOk z 48271 = true := mul_big (hb z hz) (by decide)
        have m2 : mulOk (j : Int) 69621 = true := mulOk_lt (m := 40) (n := 40) (by omega) (by decide) (by decide) (by decide) (by decide)
        have m3 : mulOk ((z * 48271 + (j : Int) * 69621 + 11) % 2147483647) 16807 = true := mulOk_lt (m := 40) (n := 40) (by omega) (by decide) (by decide) (by decide) (by decide)
        exists k_eMt, isL1, app1 (show row.length < 1000000 by omega), m1, m2, m3, (by decide : (0 : Int) < 2147483647), (by decide : (0 : Int) < 2147483629)
        exact ⟨_, _, _, _, hB.snoc (Int.emod_nonneg _ (by decide)) (Int.lt_trans (Int.emod_lt_of_pos _ (by decide)) (by decide)), by rw [List.length_append]; simp; omega, rfl, rfl⟩
      · rintro l st ⟨row, b, c, d, hB, hlen, rfl, rfl⟩
        rw [up_len] at hlen
        exact ⟨row, _, _, _, _, hB, by omega, rfl, rfl⟩
  · rintro l st ⟨row, a, b, c, d, hB, hlen, rfl, rfl⟩
    rw [List.length_map] at hlen
    subst hT
    have fl : ∀ (X : XP) (P : W → Sto → Prop), Ok (fLen [.ref 1] (N3 (.scr (ns.map .int)) (.lst (ns.map .int)) row)) X P = P (.int (row.length : Nat)) (N3 (.scr (ns.map .int)) (.lst (ns.map .int)) row) := fun X P => by
      rw [v_lenL (by intro z h; cases h) (ws := row.map .int) rfl, List.length_map]
    have tr : ∀ (row : List Int) (X : XP) (P : W → Sto → Prop), Ok (trim 1 (.ref 1) (N3 (.scr (ns.map .int)) (.lst (ns.map .int)) row)) X P = P (.ref 1) ⟨[.scr (ns.map .int), .lst (row.map .int)], none⟩ := fun row X P => by
      have : trim 1 (.ref 1) (N3 (.scr (ns.map .int)) (.lst (ns.map .int)) row) = (if W.pures (row.map W.int) = true then .ok (.ref 1) ⟨[.scr (ns.map .int), .lst (row.map .int)], none⟩ else gcF 1 (.ref 1) (N3 (.scr (ns.map .int)) (.lst (ns.map .int)) row)) := rfl
      rw [this, if_pos (ints_pure row)]; rfl
    exists fl, k_eMt, isL1, app1 (show row.length < 1000000 by omega), tr
    by_cases h0 : (row.length : Int) = 0
    · rw [if_pos h0]
      exact ⟨row ++ [0], ⟨by simp, hB.snoc (by decide) (by decide)⟩, by first | rfl | exact ⟨rfl, rfl⟩⟩
    · rw [if_neg h0]
      exact ⟨row, ⟨by intro e; subst e; exact h0 rfl, hB⟩, by first | rfl | exact ⟨rfl, rfl⟩⟩
section
variable {c g : List Cell} {x y : Cell} {X : XP} {P : W → Sto → Prop}
theorem k_isi {ans : Tn → Option Bool} {a : Ev} {l : Lo} {st : Sto} : Ok (eIsi ans a l st) X P = Ok (a l st) X fun w st1 => match (tnOf st1 w).bind ans with | some b => P (.bl b) st1 | none => False := by
  unfold eIsi; rw [k_bind]; congr 1; funext w st1; cases (tnOf st1 w).bind ans <;> rfl
theorem c_get : (c ++ x :: g)[c.length]? = some x := by
  rw [List.getElem?_append_right (Nat.le_refl _), Nat.sub_self]; rfl
theorem c_put : (⟨c ++ x :: g, none⟩ : Sto).put c.length y true = ⟨c ++ y :: g, none⟩ := by
  show (⟨(c ++ x :: g).set c.length y, none⟩ : Sto) = _
  rw [List.set_append_right _ _ (Nat.le_refl _), Nat.sub_self]; rfl
theorem c_seq {ws : List W} : seqOf ⟨c ++ .lst ws :: g, none⟩ (.ref c.length) = some ws := by
  show getL _ _ = _
  unfold getL; rw [c_get]
theorem c_trim {w : W} (h : W.pure w = true) : Ok (trim c.length w ⟨c ++ g, none⟩) X P = P w ⟨c, none⟩ := by
  rw [k_trim h, List.take_left]
theorem c_trim0 {w : W} (h : W.pure w = true) : Ok (trim c.length w ⟨c, none⟩) X P = P w ⟨c, none⟩ := by
  rw [k_trim h, List.take_length]
theorem v_all {st : Sto} {n : Nat} {ws : List W} {bs : List Bool} (h : getL st n = some ws) (h2 : bools ws = some bs) : Ok (fAll [.ref n] st) X P = P (.bl (bs.all id)) st := by
  unfold fAll; simp only [h, Option.bind_some, h2]; rfl
theorem bools_rep (n : Nat) : bools (List.replicate n (.bl true)) = some (List.replicate n true) := by
  induction n with
  | zero => rfl
  | succ n ih => show (bools (List.replicate n (.bl true))).map (true :: ·) = _; rw [ih]; rfl
theorem all_rep (n : Nat) : (List.replicate n true).all id = true := by
  induction n with
  | zero => rfl
  | succ n ih => show (true && (List.replicate n true).all id) = true; rw [ih]; rfl
def trues (n : Nat) : List W := List.replicate n (.bl true)
theorem trues_len (n : Nat) : (trues n).length = n := List.length_replicate ..
theorem trues_snoc {n : Nat} : trues n ++ [.bl true] = trues (n + 1) := by unfold trues; rw [List.replicate_succ']
theorem bools_trues (n : Nat) : bools (trues n) = some (List.replicate n true) := bools_rep n
theorem int_ok (z : Int) : F_is_integer [.int z] ⟨c, none⟩ = .ok (.bl true) ⟨c, none⟩ := by
  refine run_eq ?_
  unfold F_is_integer
  exists k_isi, tnOf, ans_int, ans_bool
  rw [c_trim0 rfl]; exact ⟨rfl, rfl⟩
theorem within_ok (z a b : Int) : F_is_integer_within [.int z, .int a, .int b] ⟨c, none⟩ = .ok (.bl (decide (a ≤ z) && decide (z ≤ b))) ⟨c, none⟩ := by
  refine run_eq ?_
  unfold F_is_integer_within
  exists kk (int_ok (c := c) z)
  by_cases h : a ≤ z
  · rw [if_pos h, c_trim0 rfl]; simp [h]
  · rw [if_neg h, c_trim0 rfl]; simp [h]
theorem seq_ok (ws : List W) : F_is_sequence [.tup ws] ⟨c, none⟩ = .ok (.bl true) ⟨c, none⟩ := by
  refine run_eq ?_
  unfold F_is_sequence
  exists k_isi, tnOf, ans_list_tuple
  rw [c_trim0 rfl]; exact ⟨rfl, rfl⟩
theorem runners_ok {ks : List Int} {n : Int} (h : ∀ k ∈ ks, 0 ≤ k ∧ k ≤ n - 1) (hl : ks.length < 1000) : F__are_runners [.tup (ks.map .int), .int n] ⟨c, none⟩ = .ok (.bl true) ⟨c, none⟩ := by
  refine run_eq ?_
  unfold F__are_runners
  exists kk (seq_ok (c := c) (ks.map .int))
  refine cloop_fix (ks.map .int) (fun i acc st => acc = trues i ∧ st = ⟨c ++ .lst (trues i) :: [], none⟩) (fun _ _ _ _ => rfl) ?_ ?_ 1000000 0 [] _ (by rw [List.length_map]; omega) (Nat.zero_le _) ⟨rfl, rfl⟩
  · rintro i w acc st hw ⟨rfl, rfl⟩
    obtain ⟨z, hz, rfl⟩ : ∃ z, z ∈ ks ∧ w = .int z := by
      rw [List.getElem?_map] at hw
      cases e : ks[i]? with
      | none => rw [e] at hw; cases hw
      | some z => rw [e] at hw; cases hw; exact ⟨z, List.mem_of_getElem? e, rfl⟩
    have hi := (List.getElem?_eq_some_iff.mp hw).1
    rw [List.length_map] at hi
    refine ⟨_, rfl, ?_⟩
    have hq := h z hz
    have q1 : (decide (0 ≤ z) && decide (z ≤ n - 1)) = true := by simp [hq.1, hq.2]
    exists wipeL, bYes, kk (within_ok (c := c ++ .lst (trues i) :: []) z 0 (n - 1)), q1
    refine ⟨trues i, c_get, by rw [trues_len]; omega, trues_snoc, ?_⟩
    rw [← trues_snoc]
    exact c_put
  · rintro acc st ⟨rfl, rfl⟩
    rw [v_all (show getL _ _ = _ from c_seq) (bools_trues _), all_rep, c_trim rfl]
    exact ⟨rfl, rfl⟩
theorem dats_ints (n : Nat) : ∀ ks : List Int, W.dats n (ks.map .int) = some (ks.map .int)
  | [] => by cases n <;> rfl
  | k :: r => by
    have h := dats_ints n r
    have h2 : W.dat n (.int k) = some (.int k) := by cases n <;> rfl
    show (match W.dat n (.int k), W.dats n (r.map .int) with | some d, some ds => some (d :: ds) | _, _ => none) = _
    rw [h, h2]; rfl
theorem eqv_ints : ∀ ks : List Int, PyData.eqvAll (ks.map .int) (ks.map .int) = true
  | [] => rfl
  | k :: r => by
    show (PyData.eqv (.int k) (.int k) && PyData.eqvAll (r.map .int) (r.map .int)) = true
    rw [eqv_ints r]; simp [PyData.eqv]
theorem ints_of : ∀ ks : List Int, intsOf (ks.map .int) = some ks
  | [] => rfl
  | k :: r => by show (intsOf (r.map .int)).map (k :: ·) = _; rw [ints_of r]; rfl
theorem asc_ok {ks : List Int} {n : Int} (h : ∀ k ∈ ks, 0 ≤ k ∧ k ≤ n - 1) (hl : ks.length < 60) (hs : L2.setI ks = ks) : F__is_ascending [.tup (ks.map .int), .int n] ⟨c, none⟩ = .ok (.bl true) ⟨c, none⟩ := by
  refine run_eq ?_
  unfold F__is_ascending
  have fl : ∀ (X : XP) (P : W → Sto → Prop), Ok (fList [.tup (ks.map .int)] ⟨c, none⟩) X P = P (.ref c.length) ⟨c ++ .lst (ks.map .int) :: [], none⟩ := fun X P => rfl
  have fs : ∀ (X : XP) (P : W → Sto → Prop), Ok (fSortSet (.tup (ks.map .int)) ⟨c ++ .lst (ks.map .int) :: [], none⟩) X P = P (.ref (c.length + 1)) ⟨(c ++ .lst (ks.map .int) :: []) ++ .lst (ks.map .int) :: [], none⟩ := fun X P => by
    unfold fSortSet
    have : (seqOf ⟨c ++ .lst (ks.map .int) :: [], none⟩ (.tup (ks.map .int))).bind intsOf = some ks := ints_of ks
    simp only [this, hl, if_true, hs, List.length_append, List.length_cons, List.length_nil, Nat.zero_add]
    rfl
  have eq : ∀ (X : XP) (P : W → Sto → Prop), Ok (wEq (.ref c.length) (.ref (c.length + 1)) ⟨(c ++ .lst (ks.map .int) :: []) ++ .lst (ks.map .int) :: [], none⟩) X P = P (.bl true) ⟨(c ++ .lst (ks.map .int) :: []) ++ .lst (ks.map .int) :: [], none⟩ := fun X P => by
    have g1 : getL ⟨(c ++ .lst (ks.map .int) :: []) ++ .lst (ks.map .int) :: [], none⟩ c.length = some (ks.map .int) := by
      unfold getL; rw [List.append_assoc]; exact by rw [show ([Cell.lst (ks.map W.int)] ++ [Cell.lst (ks.map W.int)]) = Cell.lst (ks.map W.int) :: [Cell.lst (ks.map W.int)] from rfl, c_get]
    have g2 : getL ⟨(c ++ .lst (ks.map .int) :: []) ++ .lst (ks.map .int) :: [], none⟩ (c.length + 1) = some (ks.map .int) := by
      have := c_get (c := c ++ [Cell.lst (ks.map W.int)]) (x := .lst (ks.map .int)) (g := [])
      rw [List.length_append] at this
      unfold getL; rw [show c.length + 1 = c.length + [Cell.lst (ks.map W.int)].length from rfl, this]
    have d1 : datOf ⟨(c ++ .lst (ks.map .int) :: []) ++ .lst (ks.map .int) :: [], none⟩ (.ref c.length) = some (.list (ks.map .int)) := by
      show (match getL _ _ with | some ws => (W.dats 8 ws).map PyData.list | none => none) = _
      rw [g1]; show (W.dats 8 (ks.map .int)).map PyData.list = _; rw [dats_ints]; rfl
    have d2 : datOf ⟨(c ++ .lst (ks.map .int) :: []) ++ .lst (ks.map .int) :: [], none⟩ (.ref (c.length + 1)) = some (.list (ks.map .int)) := by
      show (match getL _ _ with | some ws => (W.dats 8 ws).map PyData.list | none => none) = _
      rw [g2]; show (W.dats 8 (ks.map .int)).map PyData.list = _; rw [dats_ints]; rfl
    unfold wEq
    rw [d1, d2]
    show P (.bl (PyData.eqvAll (ks.map .int) (ks.map .int))) _ = _
    rw [eqv_ints]
  exists kk (runners_ok (c := c) h (by omega)), fl, fs, eq
  rw [List.append_assoc, c_trim rfl]
  exact ⟨rfl, rfl⟩
end
def fldw (k : Nat) (f : Str) (v x : W) (l : Lo) (st2 : Sto) : RS := match x with
  | .ref n => match st2.c[n]? with
    | some (.ins k2 fs) => if k2 = k ∧ fs.length < 1000 then .nx l (st2.put n (.ins k2 (putW f v fs)) (W.low n v)) else .err
    | _ => .err
  | _ => .err
theorem k_sFldW {k : Nat} {f : Str} {o e : Ev} {l : Lo} {st : Sto} {D : Po4} : OkS (sFldW k f o e l st) D = Ok (e l st) (fun c p st => D.ex c p l st) fun v st1 => Ok (o l st1) (fun c p st => D.ex c p l st) fun x st2 => OkS (fldw k f v x l st2) D := by
  unfold sFldW; rw [k_xs]; congr 1; funext v st1; rw [k_xs]; rfl
section
variable {c : List Cell} {X : XP} {P : W → Sto → Prop} {D : Po4}
theorem v_fldw {f : Str} {v : W} {l : Lo} {fs : List (Str × W)} (h : fs.length < 1000) (hv : W.low c.length v = true) : OkS (fldw 0 f v (.ref c.length) l ⟨c ++ .ins 0 fs :: [], none⟩) D = D.nx l ⟨c ++ .ins 0 (putW f v fs) :: [], none⟩ := by
  unfold fldw
  simp only [c_get]
  rw [if_pos (by first | exact ⟨trivial, h⟩ | exact ⟨rfl, h⟩), hv, c_put]; rfl
end
end LW
namespace LW
open PySem PySem.W RB
def allO : List (List (List Nat)) := [
  [[0]], [[0], [1]], [[0], [1], [2]], [[0], [1], [2], [3]], [[0], [1], [2, 3]], [[0], [1], [3]],
  [[0], [1], [3], [2]], [[0], [1, 2]], [[0], [1, 2], [3]], [[0], [1, 2, 3]], [[0], [1, 3]], [[0], [1, 3], [2]],
  [[0], [2]], [[0], [2], [1]], [[0], [2], [1], [3]], [[0], [2], [1, 3]], [[0], [2], [3]], [[0], [2], [3], [1]],
  [[0], [2, 3]], [[0], [2, 3], [1]], [[0], [3]], [[0], [3], [1]], [[0], [3], [1], [2]], [[0], [3], [1, 2]],
  [[0], [3], [2]], [[0], [3], [2], [1]], [[0, 1]], [[0, 1], [2]], [[0, 1], [2], [3]], [[0, 1], [2, 3]],
  [[0, 1], [3]], [[0, 1], [3], [2]], [[0, 1, 2]], [[0, 1, 2], [3]], [[0, 1, 2, 3]], [[0, 1, 3]],
  [[0, 1, 3], [2]], [[0, 2]], [[0, 2], [1]], [[0, 2], [1], [3]], [[0, 2], [1, 3]], [[0, 2], [3]],
  [[0, 2], [3], [1]], [[0, 2, 3]], [[0, 2, 3], [1]], [[0, 3]], [[0, 3], [1]], [[0, 3], [1], [2]],
  [[0, 3], [1, 2]], [[0, 3], [2]], [[0, 3], [2], [1]], [[1]], [[1], [0]], [[1], [0], [2]],
  [[1], [0], [2], [3]], [[1], [0], [2, 3]], [[1], [0], [3]], [[1], [0], [3], [2]], [[1], [0, 2]], [[1], [0, 2], [3]],
  [[1], [0, 2, 3]], [[1], [0, 3]], [[1], [0, 3], [2]], [[1], [2]], [[1], [2], [0]], [[1], [2], [0], [3]],
  [[1], [2], [0, 3]], [[1], [2], [3]], [[1], [2], [3], [0]], [[1], [2, 3]], [[1], [2, 3], [0]], [[1], [3]],
  [[1], [3], [0]], [[1], [3], [0], [2]], [[1], [3], [0, 2]], [[1], [3], [2]], [[1], [3], [2], [0]], [[1, 2]],
  [[1, 2], [0]], [[1, 2], [0], [3]], [[1, 2], [0, 3]], [[1, 2], [3]], [[1, 2], [3], [0]], [[1, 2, 3]],
  [[1, 2, 3], [0]], [[1, 3]], [[1, 3], [0]], [[1, 3], [0], [2]], [[1, 3], [0, 2]], [[1, 3], [2]],
  [[1, 3], [2], [0]], [[2]], [[2], [0]], [[2], [0], [1]], [[2], [0], [1], [3]], [[2], [0], [1, 3]],
  [[2], [0], [3]], [[2], [0], [3], [1]], [[2], [0, 1]], [[2], [0, 1], [3]], [[2], [0, 1, 3]], [[2], [0, 3]],
  [[2], [0, 3], [1]], [[2], [1]], [[2], [1], [0]], [[2], [1], [0], [3]], [[2], [1], [0, 3]], [[2], [1], [3]],
  [[2], [1], [3], [0]], [[2], [1, 3]], [[2], [1, 3], [0]], [[2], [3]], [[2], [3], [0]], [[2], [3], [0], [1]],
  [[2], [3], [0, 1]], [[2], [3], [1]], [[2], [3], [1], [0]], [[2, 3]], [[2, 3], [0]], [[2, 3], [0], [1]],
  [[2, 3], [0, 1]], [[2, 3], [1]], [[2, 3], [1], [0]], [[3]], [[3], [0]], [[3], [0], [1]],
  [[3], [0], [1], [2]], [[3], [0], [1, 2]], [[3], [0], [2]], [[3], [0], [2], [1]], [[3], [0, 1]], [[3], [0, 1], [2]],
  [[3], [0, 1, 2]], [[3], [0, 2]], [[3], [0, 2], [1]], [[3], [1]], [[3], [1], [0]], [[3], [1], [0], [2]],
  [[3], [1], [0, 2]], [[3], [1], [2]], [[3], [1], [2], [0]], [[3], [1, 2]], [[3], [1, 2], [0]], [[3], [2]],
  [[3], [2], [0]], [[3], [2], [0], [1]], [[3], [2], [0, 1]], [[3], [2], [1]], [[3], [2], [1], [0]]]
def okO (n : Nat) (t : Bool) (f : Nat → Bool) (o : List (List Nat)) : Bool :=
  o.all (fun g => (t || g.length == 1) && g.all fun k => decide (k < n)) && (List.range n).all fun k => o.any (fun g => g.contains k) || f k
def outs (n : Nat) (t : Bool) (f : Nat → Bool) : List (List (List Nat)) := allO.filter (okO n t f)
def raceW (n : Nat) (t : Bool) (f : Nat → Bool) (cu : List Int) : W := .tup [.int n, .bl t, .tup (absL n f), .tup (cu.map .int)]
end LW
set_option Elab.async false
set_option linter.all false
set_option maxRecDepth 100000
set_option maxHeartbeats 4000000
namespace LW
open PySem RB L2
local macro_rules | `(tactic| exists $es,*) => `(tactic| simp (config := {decide := false, implicitDefEqProofs := false}) only [k_ok, k_exc, k_err, k_ite, k_iteS, k_nx, k_rt, k_loc, k_lit, k_nil, k_cons, k_tup, k_lst, k_bin, k_eB, k_eU, k_call, k_tru, k_not, k_and, k_or, k_if, k_eAnd, k_eOr, k_eNot, k_val, k_chain, k_sNil, k_sSeq, k_sSet, tgName, tgTup, tgCons, tgNil, Option.bind_some, k_sDrop, k_sRet, k_sRetN, k_sIf, k_sBreak, k_sCont, k_sFor, k_sRaise, k_sTry, k_defn, k_vSeq, k_rng1, k_comp,
  v_add, v_sub, v_mul, v_mod, v_div, v_lt, v_le, v_gt, v_ge, v_eq, v_ne, v_neg, v_int, v_min,
  List.map_cons, List.map_nil, List.length_cons, List.length_nil, List.replicate_succ, List.replicate_zero, List.cons_append, List.nil_append, List.append_nil, List.getElem?_cons_succ, List.getElem?_cons_zero, List.set_cons_succ, List.set_cons_zero,
  Nat.reduceAdd, Nat.reduceSub, Nat.zero_add, decide_eq_true_eq, Bool.not_eq_true', decide_eq_false_iff_not, Bool.true_eq_false, Bool.false_eq_true, if_true, if_false, ite_true, ite_false, ite_self, reduceIte, Nat.reduceLeDiff, true_and, and_true, $[$es:term],*])
abbrev C (c : List Cell) : Sto := ⟨c, none⟩
theorem ok_of {α : Type} {r : Res α} {a : α} {t : Sto} (h : r = .ok a t) {X : XP} {P : α → Sto → Prop} (p : P a t) : Ok r X P := by rw [h]; exact p
section
variable {c g : List Cell} {X : XP}
theorem cl_pure {ws : List W} {s : Src} (hat : ∀ us i, s.at (C (c ++ .lst us :: [])) i = some ws[i]?) {tg : Tg} {own : List Nat} {cond : Bv} {elt : Ev} {l : Lo} {P : Unit → Sto → Prop} (cb : W → Bool) (ev : W → W) (hw : ws.length < 1000000)
    (hs : ∀ w ∈ ws, ∃ l1, (∀ st, tg w (wipeL l own) st = some l1) ∧ (∀ us, cond l1 (C (c ++ .lst us :: [])) = .ok (cb w) (C (c ++ .lst us :: []))) ∧ (cb w = true → W.pure (ev w) = true ∧ ∀ us, elt l1 (C (c ++ .lst us :: [])) = .ok (ev w) (C (c ++ .lst us :: []))))
    (h : P () (C (c ++ .lst ((ws.filter cb).map ev) :: []))) : Ok (cLoop s tg own cond (cApp elt c.length) l 1000000 0 (C (c ++ .lst [] :: []))) X P := by
  refine cloop_fix ws (fun i acc st => acc = ((ws.take i).filter cb).map ev ∧ st = C (c ++ .lst acc :: [])) (fun i _ _ h => by rw [h.2]; exact hat _ i) ?_ ?_ 1000000 0 [] _ (by omega) (Nat.zero_le _) ⟨by simp, rfl⟩
  · rintro i w acc st hw2 ⟨rfl, rfl⟩
    have hi := (List.getElem?_eq_some_iff.mp hw2).1
    have tk : ws.take (i + 1) = ws.take i ++ [w] := by rw [List.take_succ, hw2]; rfl
    obtain ⟨l1, h1, h2, h3⟩ := hs w (List.mem_of_getElem? hw2)
    refine ⟨l1, h1 _, ok_of (h2 _) ?_⟩
    cases hb : cb w with
    | false =>
      rw [if_neg (by decide)]
      have : ((ws.take (i + 1)).filter cb).map ev = ((ws.take i).filter cb).map ev := by rw [tk, List.filter_append, List.filter_cons, if_neg (by rw [hb]; decide)]; simp
      exact ⟨this.symm, by first | rfl | rw [this]⟩
    | true =>
      rw [if_pos rfl]
      obtain ⟨h4, h5⟩ := h3 hb
      have e : ((ws.take (i + 1)).filter cb).map ev = ((ws.take i).filter cb).map ev ++ [ev w] := by rw [tk, List.filter_append, List.filter_cons, if_pos hb]; simp
      have hl : (((ws.take i).filter cb).map ev).length ≤ i := by
        rw [List.length_map]
        exact Nat.le_trans (List.length_filter_le _ _) (by rw [List.length_take]; exact Nat.min_le_left _ _)
      refine ok_of (h5 _) ⟨((ws.take i).filter cb).map ev, c_get, by omega, e.symm, ?_⟩
      rw [W.pure_low h4]
      exact c_put
  · rintro acc st ⟨rfl, rfl⟩
    rw [List.take_length]
    exact h
theorem cl_map {ws : List W} {s : Src} (hat : ∀ us i, s.at (C (c ++ .lst us :: [])) i = some ws[i]?) {tg : Tg} {own : List Nat} {elt : Ev} {l : Lo} {P : Unit → Sto → Prop} (ev : W → W) (hw : ws.length < 1000000)
    (hs : ∀ w ∈ ws, ∃ l1, (∀ st, tg w (wipeL l own) st = some l1) ∧ W.pure (ev w) = true ∧ ∀ us, elt l1 (C (c ++ .lst us :: [])) = .ok (ev w) (C (c ++ .lst us :: [])))
    (h : P () (C (c ++ .lst (ws.map ev) :: []))) : Ok (cLoop s tg own bYes (cApp elt c.length) l 1000000 0 (C (c ++ .lst [] :: []))) X P := by
  refine cl_pure hat (fun _ => true) ev hw (fun w hw => ?_) ?_
  · obtain ⟨l1, h1, h2, h3⟩ := hs w hw
    exact ⟨l1, h1, fun _ => rfl, fun _ => ⟨h2, h3⟩⟩
  · rw [List.filter_eq_self.mpr fun _ _ => rfl]; exact h
end
set_option Elab.async false
set_option linter.all false
set_option maxRecDepth 100000
set_option maxHeartbeats 4000000
def nW (l : List Nat) : List W := l.map fun k => .int (k : Nat)
theorem nW_pure : ∀ l : List Nat, W.pures (nW l) = true
  | [] => rfl
  | a :: r => by show (W.pure (W.int _) && W.pures (nW r)) = true; rw [nW_pure r]; rfl
theorem nW_len (l : List Nat) : (nW l).length = l.length := List.length_map ..
section
variable {c g : List Cell} {X : XP} {P : W → Sto → Prop}
inductive B where
  | top (k : Nat) (l : List Nat)
  | row (l : List Nat)
def B.toW : B → W
  | .top k l => .tup [.str "top", .int (k : Nat), .tup (nW l)]
  | .row l => .tup [.str "row", .tup (nW l)]
theorem cut_to {α : Type} (xs : List α) (k : Nat) : cutW xs none (some (k : Int)) = xs.take k := by
  unfold cutW
  have e1 : HT.sIx xs.length 0 none = 0 := rfl
  rw [e1, List.drop_zero, Nat.sub_zero]
  have e2 : HT.sIx xs.length xs.length (some (k : Int)) = min k xs.length := by
    unfold HT.sIx
    first | (simp; omega) | simp | rfl
  rw [e2]
  by_cases h : k ≤ xs.length
  · rw [Nat.min_eq_left h]
  · rw [Nat.min_eq_right (by omega), List.take_length, List.take_of_length_le (by omega)]
theorem all_map (f : Nat → Bool) (l : List Nat) : (l.map f).all id = l.all f := by rw [List.all_map]; rfl
end
end LW
namespace LW
open PySem PySem.W RB L2
local macro_rules | `(tactic| exists $es,*) => `(tactic| simp (config := {decide := false, implicitDefEqProofs := false}) only [k_ok, k_exc, k_err, k_ite, k_iteS, k_nx, k_rt, k_loc, k_lit, k_nil, k_cons, k_tup, k_lst, k_bin, k_eB, k_eU, k_call, k_tru, k_not, k_and, k_or, k_if, k_eAnd, k_eOr, k_eNot, k_val, k_chain, k_sNil, k_sSeq, k_sSet, tgName, tgTup, tgCons, tgNil, Option.bind_some, k_sDrop, k_sRet, k_sRetN, k_sIf, k_sBreak, k_sCont, k_sFor, k_sRaise, k_sTry, k_defn, k_vSeq, k_rng1, k_comp,
  v_add, v_sub, v_mul, v_mod, v_div, v_lt, v_le, v_gt, v_ge, v_eq, v_ne, v_neg, v_int, v_min,
  List.map_cons, List.map_nil, List.length_cons, List.length_nil, List.replicate_succ, List.replicate_zero, List.cons_append, List.nil_append, List.append_nil, List.getElem?_cons_succ, List.getElem?_cons_zero, List.set_cons_succ, List.set_cons_zero,
  Nat.reduceAdd, Nat.reduceSub, Nat.zero_add, decide_eq_true_eq, Bool.not_eq_true', decide_eq_false_iff_not, Bool.true_eq_false, Bool.false_eq_true, if_true, if_false, ite_true, ite_false, ite_self, reduceIte, Nat.reduceLeDiff, true_and, and_true, $[$es:term],*])
set_option Elab.async false
set_option linter.all false
set_option maxRecDepth 100000
set_option maxHeartbeats 4000000
section
variable {c g : List Cell} {X : XP} {P : W → Sto → Prop} {q n : Nat} {t : Bool} {f : Nat → Bool} {cu : List Int}
theorem get_app (hq : c[q]? = some x) : (c ++ g)[q]? = some x := by
  rw [List.getElem?_append_left (List.getElem?_eq_some_iff.mp hq).1]; exact hq
end
theorem pures_all : ∀ {ws : List W}, (∀ w ∈ ws, W.pure w = true) → W.pures ws = true
  | [], _ => rfl
  | w :: r, h => by show (W.pure w && W.pures r) = true; rw [h w (List.mem_cons_self ..), pures_all fun x hx => h x (List.mem_cons_of_mem _ hx)]; rfl
section
variable {c g : List Cell} {X : XP} {P : W → Sto → Prop}
def Sq (c : List Cell) (x : W) (l : List Nat) : Prop := seqOf (C c) x = some (nW l)
theorem Sq.ne {x : W} {l : List Nat} (h : Sq c x l) : ∀ z, x ≠ .str z := fun z e => by subst e; unfold Sq seqOf at h; cases h
theorem Sq.len {x : W} {l : List Nat} (h : Sq c x l) : Ok (fLen [x] (C c)) X P = P (.int (l.length : Nat)) (C c) := by
  rw [v_lenL h.ne h, nW_len]
end
def isN : List W → List Nat → Bool
  | [], [] => true
  | .int i :: r, k :: s => decide (i = (k : Int)) && isN r s
  | _, _ => false
theorem isN_eq : ∀ {ws : List W} {l : List Nat}, isN ws l = true → ws = nW l
  | [], [], _ => rfl
  | [], _ :: _, h => by cases h
  | .int i :: r, k :: s, h => by
    unfold isN at h
    simp only [Bool.and_eq_true, decide_eq_true_eq] at h
    rw [isN_eq h.2, h.1]; rfl
  | .int _ :: _, [], h => by cases h
  | .non :: _, _, h => by unfold isN at h; cases h
  | .bl _ :: _, _, h => by unfold isN at h; cases h
  | .str _ :: _, _, h => by unfold isN at h; cases h
  | .tup _ :: _, _, h => by unfold isN at h; cases h
  | .ref _ :: _, _, h => by unfold isN at h; cases h
section
variable {c g : List Cell} {X : XP} {P : W → Sto → Prop} {q n : Nat} {t : Bool} {f : Nat → Bool} {cu : List Int}
inductive Sqs (c : List Cell) : List W → List (List Nat) → Prop
  | nil : Sqs c [] []
  | cons {y : W} {x : List Nat} {ys : List W} {xs : List (List Nat)} : Sq c y x → Sqs c ys xs → Sqs c (y :: ys) (x :: xs)
theorem Sqs.len {ys : List W} {xs : List (List Nat)} (h : Sqs c ys xs) : ys.length = xs.length := by
  induction h with
  | nil => rfl
  | cons _ _ ih => rw [List.length_cons, List.length_cons, ih]
theorem Sqs.mem {ys : List W} {xs : List (List Nat)} (h : Sqs c ys xs) : ∀ y ∈ ys, ∃ x ∈ xs, Sq c y x := by
  induction h with
  | nil => intro y hy; cases hy
  | cons a _ ih =>
    intro y hy
    rcases List.mem_cons.mp hy with rfl | hy
    · exact ⟨_, List.mem_cons_self .., a⟩
    · obtain ⟨x, hx, hs⟩ := ih y hy
      exact ⟨x, List.mem_cons_of_mem _ hx, hs⟩
end
end LW
namespace LW.G
open PySem RB L2
local macro_rules | `(tactic| exists $es,*) => `(tactic| simp (config := {decide := false, implicitDefEqProofs := false}) only [k_ok, k_exc, k_err, k_ite, k_iteS, k_nx, k_rt, k_loc, k_lit, k_nil, k_cons, k_tup, k_lst, k_bin, k_eB, k_eU, k_call, k_tru, k_not, k_and, k_or, k_if, k_eAnd, k_eOr, k_eNot, k_val, k_chain, k_sNil, k_sSeq, k_sSet, tgName, tgTup, tgCons, tgNil, Option.bind_some, k_sDrop, k_sRet, k_sRetN, k_sIf, k_sBreak, k_sCont, k_sFor, k_sRaise, k_sTry, k_defn, k_vSeq, k_rng1, k_comp,
  v_add, v_sub, v_mul, v_mod, v_div, v_lt, v_le, v_gt, v_ge, v_eq, v_ne, v_neg, v_int, v_min,
  List.map_cons, List.map_nil, List.length_cons, List.length_nil, List.replicate_succ, List.replicate_zero, List.cons_append, List.nil_append, List.append_nil, List.getElem?_cons_succ, List.getElem?_cons_zero, List.set_cons_succ, List.set_cons_zero,
  Nat.reduceAdd, Nat.reduceSub, Nat.zero_add, decide_eq_true_eq, Bool.not_eq_true', decide_eq_false_iff_not, Bool.true_eq_false, Bool.false_eq_true, if_true, if_false, ite_true, ite_false, ite_self, reduceIte, Nat.reduceLeDiff, true_and, and_true, $[$es:term],*])
theorem run_ex {α : Type} {r : Res α} {Q : α → Sto → Prop} (h : Ok r (fun _ _ _ => False) Q) : ∃ a t, r = .ok a t ∧ Q a t := by
  cases r with
  | ok b t => exact ⟨b, t, rfl, h⟩
  | exc c p t => exact h.elim
  | err => exact h.elim
theorem kk {α : Type} {r : Res α} {a : α} {t : Sto} (h : r = .ok a t) (X : XP) (P : α → Sto → Prop) : Ok r X P = P a t := by rw [h]; rfl
section
variable {ns : List W} {row : List Int} {p : Int} {rest g : List Cell} {x y : Cell}
theorem takeK (R : RowOk row) (hp : 0 ≤ p) (hat : p < 100000000) (rest : List Cell) {lim : Int} (hl : 0 < lim) :
    ∃ v, (0 ≤ v ∧ v < lim) ∧ ∀ (X : XP) (P : W → Sto → Prop), Ok (F__law_take [.ref 1, .ref 2, .int lim] (S ns row p rest)) X P = P (.int v) (S ns row (p + 1) rest) := by
  obtain ⟨v, h, e⟩ := take_ok (ns := ns) (rest := rest) R hp hat hl
  exact ⟨v, h, kk e⟩
theorem up_len (lo : Int) : ∀ n : Nat, (upFrom lo n).length = n
  | 0 => rfl
  | n + 1 => by show (upFrom (lo + 1) n).length + 1 = n + 1; rw [up_len (lo + 1) n]
theorem up_get {n i : Nat} {w : W} (h : (upFrom 0 n)[i]? = some w) : i < n ∧ w = .int (i : Nat) := by
  rw [upFrom_get] at h
  split at h
  · rename_i q; cases h; exact ⟨q, by rw [Int.zero_add]⟩
  · cases h
end
theorem k_eMt {F : W → List W → Sto → Res W} {o : Ev} {a : Evs} {l : Lo} {st : Sto} {X : XP} {P : W → Sto → Prop} : Ok (eMt F o a l st) X P = Ok (o l st) X fun x st1 => if isL st1 x = true then Ok (a l st1) X fun ws st2 => Ok (F x ws st2) X P else False := by
  unfold eMt; simp only [k_bind, k_ite, k_err]
section
variable {c g : List Cell} {x y : Cell} {X : XP} {P : W → Sto → Prop}
theorem k_isi {ans : Tn → Option Bool} {a : Ev} {l : Lo} {st : Sto} : Ok (eIsi ans a l st) X P = Ok (a l st) X fun w st1 => match (tnOf st1 w).bind ans with | some b => P (.bl b) st1 | none => False := by
  unfold eIsi; rw [k_bind]; congr 1; funext w st1; cases (tnOf st1 w).bind ans <;> rfl
theorem c_get : (c ++ x :: g)[c.length]? = some x := by
  rw [List.getElem?_append_right (Nat.le_refl _), Nat.sub_self]; rfl
theorem c_put : (⟨c ++ x :: g, none⟩ : Sto).put c.length y true = ⟨c ++ y :: g, none⟩ := by
  show (⟨(c ++ x :: g).set c.length y, none⟩ : Sto) = _
  rw [List.set_append_right _ _ (Nat.le_refl _), Nat.sub_self]; rfl
theorem c_seq {ws : List W} : seqOf ⟨c ++ .lst ws :: g, none⟩ (.ref c.length) = some ws := by
  show getL _ _ = _
  unfold getL; rw [c_get]
theorem c_trim0 {w : W} (h : W.pure w = true) : Ok (trim c.length w ⟨c, none⟩) X P = P w ⟨c, none⟩ := by
  rw [k_trim h, List.take_length]
end
set_option Elab.async false
set_option linter.all false
set_option maxRecDepth 100000
set_option maxHeartbeats 4000000
abbrev C (c : List Cell) : Sto := ⟨c, none⟩
theorem ok_of {α : Type} {r : Res α} {a : α} {t : Sto} (h : r = .ok a t) {X : XP} {P : α → Sto → Prop} (p : P a t) : Ok r X P := by rw [h]; exact p
end LW.G
namespace LW.G
open PySem PySem.W RB L2
local macro_rules | `(tactic| exists $es,*) => `(tactic| simp (config := {decide := false, implicitDefEqProofs := false}) only [k_ok, k_exc, k_err, k_ite, k_iteS, k_nx, k_rt, k_loc, k_lit, k_nil, k_cons, k_tup, k_lst, k_bin, k_eB, k_eU, k_call, k_tru, k_not, k_and, k_or, k_if, k_eAnd, k_eOr, k_eNot, k_val, k_chain, k_sNil, k_sSeq, k_sSet, tgName, tgTup, tgCons, tgNil, Option.bind_some, k_sDrop, k_sRet, k_sRetN, k_sIf, k_sBreak, k_sCont, k_sFor, k_sRaise, k_sTry, k_defn, k_vSeq, k_rng1, k_comp,
  v_add, v_sub, v_mul, v_mod, v_div, v_lt, v_le, v_gt, v_ge, v_eq, v_ne, v_neg, v_int, v_min,
  List.map_cons, List.map_nil, List.length_cons, List.length_nil, List.replicate_succ, List.replicate_zero, List.cons_append, List.nil_append, List.append_nil, List.getElem?_cons_succ, List.getElem?_cons_zero, List.set_cons_succ, List.set_cons_zero,
  Nat.reduceAdd, Nat.reduceSub, Nat.zero_add, decide_eq_true_eq, Bool.not_eq_true', decide_eq_false_iff_not, Bool.true_eq_false, Bool.false_eq_true, if_true, if_false, ite_true, ite_false, ite_self, reduceIte, Nat.reduceLeDiff, true_and, and_true, $[$es:term],*])
section
variable {c g : List Cell} {X : XP} {P : W → Sto → Prop}
theorem fraction_ok {a : Int} {b : Nat} (h0 : 0 < b) (hb : b < 2 ^ 8000) : F_fraction [.int a, .int (b : Nat)] (C c) = .ok (frW (mkRat a b)) (C c) := by
  refine run_eq ?_
  unfold F_fraction
  have g0 : 0 < Nat.gcd a.natAbs b := Nat.gcd_pos_of_pos_right _ h0
  have gb : Nat.gcd a.natAbs b < 2 ^ 8000 := Nat.lt_of_le_of_lt (Nat.gcd_le_right _ h0) hb
  have gg : ∀ (X : XP) (P : W → Sto → Prop), Ok (fGcd [.int a, .int (b : Nat)] (C c)) X P = P (.int ((Nat.gcd a.natAbs b : Nat) : Int)) (C c) := fun X P => by
    show P (.int ((Nat.gcd a.natAbs (Int.natAbs (b : Nat)) : Nat) : Int)) (C c) = _
    rw [Int.natAbs_natCast]
  exists gg, div_bd g0 gb
  rw [c_trim0 rfl, frW_mk (by omega)]
  exact ⟨rfl, rfl⟩
set_option exponentiation.threshold 10000
end
set_option Elab.async false
set_option linter.all false
set_option maxRecDepth 100000
set_option maxHeartbeats 4000000
local macro_rules | `(tactic| exists $es,*) => `(tactic| simp (config := {decide := false, implicitDefEqProofs := false, maxSteps := 1000000}) only [k_ok, k_exc, k_err, k_ite, k_iteS, k_nx, k_rt, k_loc, k_lit, k_nil, k_cons, k_tup, k_lst, k_bin, k_eB, k_eU, k_call, k_tru, k_not, k_and, k_or, k_if, k_eAnd, k_eOr, k_eNot, k_val, k_chain, k_sNil, k_sSeq, k_sSet, tgName, tgCons, tgNil, Option.bind_some, k_sDrop, k_sRet, k_sRetN, k_sIf, k_sBreak, k_sCont, k_sFor, k_sRaise, k_sTry, k_defn, k_rng1, k_comp,
  v_add, v_sub, v_mul, v_mod, v_div, v_lt, v_le, v_gt, v_ge, v_eq, v_ne, v_neg, v_int, v_min,
  List.map_cons, List.map_nil, List.length_cons, List.length_nil, List.replicate_succ, List.replicate_zero, List.cons_append, List.nil_append, List.append_nil, List.getElem?_cons_succ, List.getElem?_cons_zero, List.set_cons_succ, List.set_cons_zero,
  Nat.reduceAdd, Nat.reduceSub, Nat.zero_add, decide_eq_true_eq, Bool.not_eq_true', decide_eq_false_iff_not, Bool.true_eq_false, Bool.false_eq_true, if_true, if_false, ite_true, ite_false, ite_self, reduceIte, Nat.reduceLeDiff, true_and, and_true, not_true_eq_false, not_false_eq_true, decide_true, decide_false, Bool.not_true, Bool.not_false, $[$es:term],*])
local macro_rules | `(tactic| exists $es,*) => `(tactic| simp (config := {decide := false, implicitDefEqProofs := false}) only [k_ok, k_exc, k_err, k_ite, k_iteS, k_nx, k_rt, k_loc, k_lit, k_nil, k_cons, k_tup, k_lst, k_bin, k_eB, k_eU, k_call, k_tru, k_not, k_and, k_or, k_if, k_eAnd, k_eOr, k_eNot, k_val, k_chain, k_sNil, k_sSeq, k_sSet, tgName, tgTup, tgCons, tgNil, Option.bind_some, k_sDrop, k_sRet, k_sRetN, k_sIf, k_sBreak, k_sCont, k_sFor, k_sRaise, k_sTry, k_defn, k_vSeq, k_rng1, k_comp,
  v_add, v_sub, v_mul, v_mod, v_div, v_lt, v_le, v_gt, v_ge, v_eq, v_ne, v_neg, v_int, v_min,
  List.map_cons, List.map_nil, List.length_cons, List.length_nil, List.replicate_succ, List.replicate_zero, List.cons_append, List.nil_append, List.append_nil, List.getElem?_cons_succ, List.getElem?_cons_zero, List.set_cons_succ, List.set_cons_zero,
  Nat.reduceAdd, Nat.reduceSub, Nat.zero_add, decide_eq_true_eq, Bool.not_eq_true', decide_eq_false_iff_not, Bool.true_eq_false, Bool.false_eq_true, if_true, if_false, ite_true, ite_false, ite_self, reduceIte, Nat.reduceLeDiff, true_and, and_true, $[$es:term],*])
section
variable {c g : List Cell} {X : XP} {P : W → Sto → Prop}
def leaf : W → Bool
  | .tup _ => false
  | .ref _ => false
  | _ => true
end
local macro_rules | `(tactic| exists $es,*) => `(tactic| simp (config := {decide := false, implicitDefEqProofs := false, maxSteps := 1000000}) only [k_ok, k_exc, k_err, k_ite, k_iteS, k_nx, k_rt, k_loc, k_lit, k_nil, k_cons, k_tup, k_lst, k_bin, k_eB, k_eU, k_call, k_tru, k_not, k_and, k_or, k_if, k_eAnd, k_eOr, k_eNot, k_val, k_chain, k_sNil, k_sSeq, k_sSet, tgName, tgCons, tgNil, Option.bind_some, k_sDrop, k_sRet, k_sRetN, k_sIf, k_sBreak, k_sCont, k_sFor, k_sRaise, k_sTry, k_defn, k_rng1, k_comp,
  v_add, v_sub, v_mul, v_mod, v_div, v_lt, v_le, v_gt, v_ge, v_eq, v_ne, v_neg, v_int, v_min,
  List.map_cons, List.map_nil, List.length_cons, List.length_nil, List.replicate_succ, List.replicate_zero, List.cons_append, List.nil_append, List.append_nil, List.getElem?_cons_succ, List.getElem?_cons_zero, List.set_cons_succ, List.set_cons_zero,
  Nat.reduceAdd, Nat.reduceSub, Nat.zero_add, decide_eq_true_eq, Bool.not_eq_true', decide_eq_false_iff_not, Bool.true_eq_false, Bool.false_eq_true, if_true, if_false, ite_true, ite_false, ite_self, reduceIte, Nat.reduceLeDiff, true_and, and_true, not_true_eq_false, not_false_eq_true, decide_true, decide_false, Bool.not_true, Bool.not_false, $[$es:term],*])
mutual
inductive Lk (n : Nat) (c : List Cell) : W → W → Prop
  | leaf {w : W} : leaf w = true → Lk n c w w
  | tup {ws vs : List W} : Lks n c ws vs → Lk n c (.tup ws) (.tup vs)
  | lst {k : Nat} {ws vs : List W} : n ≤ k → c[k]? = some (.lst ws) → Lks n c ws vs → Lk n c (.ref k) (.tup vs)
inductive Lks (n : Nat) (c : List Cell) : List W → List W → Prop
  | nil : Lks n c [] []
  | cons {w v : W} {ws vs : List W} : Lk n c w v → Lks n c ws vs → Lks n c (w :: ws) (v :: vs)
end
section
variable {c c' g : List Cell} {X : XP} {P : W → Sto → Prop} {n m : Nat}
mutual
theorem Lk.imp (hn : m ≤ n) (hc : ∀ (k : Nat) ws, n ≤ k → c[k]? = some (.lst ws) → c'[k]? = some (.lst ws)) : ∀ {w v : W}, Lk n c w v → Lk m c' w v
  | _, _, .leaf h => .leaf h
  | _, _, .tup h => .tup (Lks.imp hn hc h)
  | _, _, .lst a b h => .lst (by omega) (hc _ _ a b) (Lks.imp hn hc h)
theorem Lks.imp (hn : m ≤ n) (hc : ∀ (k : Nat) ws, n ≤ k → c[k]? = some (.lst ws) → c'[k]? = some (.lst ws)) : ∀ {ws vs : List W}, Lks n c ws vs → Lks m c' ws vs
  | _, _, .nil => .nil
  | _, _, .cons a b => .cons (Lk.imp hn hc a) (Lks.imp hn hc b)
end
theorem Lks.len : ∀ {ws vs : List W}, Lks n c ws vs → ws.length = vs.length
  | _, _, .nil => rfl
  | _, _, .cons _ b => congrArg (· + 1) (Lks.len b)
theorem Lks.snoc : ∀ {ws vs : List W} {w v : W}, Lks n c ws vs → Lk n c w v → Lks n c (ws ++ [w]) (vs ++ [v])
  | _, _, _, _, .nil, h => .cons h .nil
  | _, _, _, _, .cons a b, h => .cons a (Lks.snoc b h)
theorem Lks.get : ∀ {ws vs : List W} {i : Nat} {w : W}, Lks n c ws vs → ws[i]? = some w → ∃ v, vs[i]? = some v ∧ Lk n c w v
  | _, _, _, _, .nil, e => by simp at e
  | _, _, 0, _, .cons a _, e => by cases e; exact ⟨_, rfl, a⟩
  | _, _, i + 1, _, .cons _ b, e => Lks.get (i := i) b e
theorem Lk.seq {w : W} {vs : List W} (h : Lk n c w (.tup vs)) : ∃ ws, seqOf (C c) w = some ws ∧ Lks n c ws vs := by
  cases h with
  | leaf h => cases h
  | tup h => exact ⟨_, rfl, h⟩
  | lst a b h =>
    refine ⟨_, ?_, h⟩
    show RB.getL (C c) _ = _
    unfold RB.getL
    rw [show (C c).c = c from rfl, b]
theorem Lk.leaf_eq {w v : W} (h : Lk n c w v) (hv : LW.G.leaf v = true) : w = v := by
  cases h with
  | leaf h => rfl
  | tup h => cases hv
  | lst a b h => cases hv
end
section
variable {c g : List Cell} {X : XP} {P : W → Sto → Prop} {w x y z v : W} {p q : Rat} {m : Nat}
theorem Lks.ints : ∀ {ws : List W} {l : List Int}, Lks m c ws (l.map .int) → ws = l.map .int
  | _, [], .nil => rfl
  | _, a :: r, .cons h t => by rw [h.leaf_eq rfl, Lks.ints t]; rfl
set_option exponentiation.threshold 10000
end
section
variable {c g : List Cell} {X : XP} {P : W → Sto → Prop} {w x y z v : W} {q n m : Nat} {t : Bool} {f : Nat → Bool} {cu : List Int} {b : B} {o : List (List Nat)}
def cuI (n : Nat) (cu : List Int) : List Int := if cu.length = 0 then List.replicate n 0 else cu
def goneL (n : Nat) (o : List (List Nat)) : List Nat := (List.range n).filter fun k => !(o.flatten.contains k)
def cutS (n : Nat) (cu : List Int) (o : List (List Nat)) : Int := ((goneL n o).map fun k => (cuI n cu).getD k 0).sum
structure Off where
  b : B
  u : Rat
  s : Bool
def sideW : Bool → W
  | true => .str "for"
  | false => .str "against"
def Off.toW (a : Off) : W := .tup [a.b.toW, frW a.u, sideW a.s]
end
section
variable {c g : List Cell} {X : XP} {P : W → Sto → Prop} {w x y z v : W} {q n m : Nat} {t : Bool} {f : Nat → Bool} {cu : List Int} {b : B} {o : List (List Nat)}
theorem r3 (st : Sto) (X : XP) (P : W → Sto → Prop) : Ok (wIx (raceW n t f cu) (.int 3) st) X P = P (.tup (cu.map .int)) st := rfl
end
section
variable {c g : List Cell} {X : XP} {P : W → Sto → Prop} {w x y z v : W} {q n m : Nat} {t : Bool} {f : Nat → Bool} {cu : List Int} {b : B} {o : List (List Nat)}
theorem cl_ix {ws vs : List W} {s : Src} (hat : ∀ us i, s.at (C (c ++ .lst us :: [])) i = some ws[i]?) {tg : Tg} {own : List Nat} {elt : Ev} {l : Lo} {P : Unit → Sto → Prop} (hl : ws.length = vs.length) (hw : ws.length < 1000000)
    (hs : ∀ (i : Nat) w v, ws[i]? = some w → vs[i]? = some v → ∃ l1, (∀ st, tg w (wipeL l own) st = some l1) ∧ W.low c.length v = true ∧ ∀ us, elt l1 (C (c ++ .lst us :: [])) = .ok v (C (c ++ .lst us :: [])))
    (h : P () (C (c ++ .lst vs :: []))) : Ok (cLoop s tg own bYes (cApp elt c.length) l 1000000 0 (C (c ++ .lst [] :: []))) X P := by
  refine cloop_fix ws (fun i acc st => acc = vs.take i ∧ st = C (c ++ .lst acc :: [])) (fun i _ _ h => by rw [h.2]; exact hat _ i) ?_ ?_ 1000000 0 [] _ (by omega) (Nat.zero_le _) ⟨by simp, rfl⟩
  · rintro i w acc st hw2 ⟨rfl, rfl⟩
    have hi := (List.getElem?_eq_some_iff.mp hw2).1
    obtain ⟨v, hv⟩ : ∃ v, vs[i]? = some v := ⟨vs[i], List.getElem?_eq_getElem (by omega)⟩
    have tk : vs.take (i + 1) = vs.take i ++ [v] := by rw [List.take_succ, hv]; rfl
    obtain ⟨l1, h1, h4, h5⟩ := hs i w v hw2 hv
    refine ⟨l1, h1 _, ok_of (show bYes l1 _ = .ok true _ from rfl) ?_⟩
    rw [if_pos rfl]
    refine ok_of (h5 _) ⟨vs.take i, c_get, by rw [List.length_take]; omega, tk.symm, ?_⟩
    rw [h4]
    exact c_put
  · rintro acc st ⟨rfl, rfl⟩
    rw [hl, List.take_length]
    exact h
theorem k_enum {as : Evs} {l : Lo} {st : Sto} {P : Src → Sto → Prop} : Ok (vEnumerate as l st) X P = Ok (as l st) X fun ws st1 => match ws with
    | [x] => (match srcOf st1 x with | some s => P (.enum s) st1 | none => False)
    | _ => False := by
  unfold vEnumerate; rw [k_bind]; congr 1; funext ws st1
  rcases ws with _ | ⟨x, _ | ⟨y, _⟩⟩
  · rfl
  · dsimp only
    cases srcOf st1 x <;> rfl
  · rfl
end
section
variable {ns : List W} {row : List Int} {p : Int} {rest : List Cell} {X : XP} {P : W → Sto → Prop} {n m : Nat} {t : Bool} {f : Nat → Bool} {cu : List Int} {outs : List (List (List Nat))}
theorem cl_draw {α : Type} {ws : List W} {s : Src} (gw : α → W) (Q : α → Prop) (step : Int) (s0 : 0 ≤ step) (hat : ∀ q us g i, s.at (S ns row q (rest ++ .lst us :: g)) i = some ws[i]?) {tg : Tg} {own : List Nat} {elt : Ev} {l : Lo} {P : Unit → Sto → Prop} (hw : ws.length < 1000000)
    (hs : ∀ (i : Nat) w, ws[i]? = some w → ∃ l1, (∀ st, tg w (wipeL l own) st = some l1) ∧ ∀ us g q, p ≤ q → q ≤ p + step * (i : Nat) → ∃ a q' g', Q a ∧ (∀ k, W.low k (gw a) = true) ∧ q ≤ q' ∧ q' ≤ q + step ∧ elt l1 (S ns row q (rest ++ .lst us :: g)) = .ok (gw a) (S ns row q' (rest ++ .lst us :: g')))
    (h : ∀ (as : List α) q g, as.length = ws.length → (∀ a ∈ as, Q a) → p ≤ q → q ≤ p + step * (ws.length : Nat) → P () (S ns row q (rest ++ .lst (as.map gw) :: g))) : Ok (cLoop s tg own bYes (cApp elt (rest.length + 1 + 1 + 1)) l 1000000 0 (S ns row p (rest ++ .lst [] :: []))) X P := by
  refine cloop_fix ws (fun i acc st => ∃ (as : List α) (q : Int) (g : List Cell), acc = as.map gw ∧ as.length = i ∧ (∀ a ∈ as, Q a) ∧ p ≤ q ∧ q ≤ p + step * (i : Nat) ∧ st = S ns row q (rest ++ .lst (as.map gw) :: g)) (fun i _ _ ⟨as, q, g, _, _, _, _, _, e⟩ => by rw [e]; exact hat _ _ _ i) ?_ ?_ 1000000 0 [] _ (by omega) (Nat.zero_le _) ⟨[], p, [], rfl, rfl, by simp, Int.le_refl _, by simp, rfl⟩
  · rintro i w acc st hw2 ⟨as, q, g, rfl, hl, hQ, h1, h2, rfl⟩
    have hi := (List.getElem?_eq_some_iff.mp hw2).1
    obtain ⟨l1, e1, h3⟩ := hs i w hw2
    obtain ⟨a, q', g', qa, lo, b1, b2, e2⟩ := h3 (as.map gw) g q h1 h2
    refine ⟨l1, e1 _, ok_of (show bYes l1 _ = .ok true _ from rfl) ?_⟩
    rw [if_pos rfl]
    refine ok_of e2 ⟨as.map gw, S_get, by rw [List.length_map]; omega, as ++ [a], q', g', by rw [List.map_append]; rfl, by rw [List.length_append, hl]; rfl, ?_, by omega, ?_, ?_⟩
    · intro x hx
      rcases List.mem_append.mp hx with z | z
      · exact hQ x z
      · rw [List.mem_singleton.mp z]; exact qa
    · have : step * ((i + 1 : Nat) : Int) = step * (i : Nat) + step := by push_cast; rw [Int.mul_add, Int.mul_one]
      omega
    · rw [lo, List.map_append]
      exact S_put
  · rintro acc st ⟨as, q, g, rfl, hl, hQ, h1, h2, rfl⟩
    exact h as q g hl hQ h1 h2
end
end LW.G
namespace LW
open PySem PySem.W RB L2
local macro_rules | `(tactic| exists $es,*) => `(tactic| simp (config := {decide := false, implicitDefEqProofs := false, maxSteps := 1000000}) only [k_ok, k_exc, k_err, k_ite, k_iteS, k_nx, k_rt, k_loc, k_lit, k_nil, k_cons, k_tup, k_lst, k_bin, k_eB, k_eU, k_call, k_tru, k_not, k_and, k_or, k_if, k_eAnd, k_eOr, k_eNot, k_val, k_chain, k_sNil, k_sSeq, k_sSet, tgName, tgCons, tgNil, Option.bind_some, k_sDrop, k_sRet, k_sRetN, k_sIf, k_sBreak, k_sCont, k_sFor, k_sRaise, k_sTry, k_defn, k_rng1, k_comp,
  v_add, v_sub, v_mul, v_mod, v_div, v_lt, v_le, v_gt, v_ge, v_eq, v_ne, v_neg, v_int, v_min,
  List.map_cons, List.map_nil, List.length_cons, List.length_nil, List.replicate_succ, List.replicate_zero, List.cons_append, List.nil_append, List.append_nil, List.getElem?_cons_succ, List.getElem?_cons_zero, List.set_cons_succ, List.set_cons_zero,
  Nat.reduceAdd, Nat.reduceSub, Nat.zero_add, decide_eq_true_eq, Bool.not_eq_true', decide_eq_false_iff_not, Bool.true_eq_false, Bool.false_eq_true, if_true, if_false, ite_true, ite_false, ite_self, reduceIte, Nat.reduceLeDiff, true_and, and_true, not_true_eq_false, not_false_eq_true, decide_true, decide_false, Bool.not_true, Bool.not_false, $[$es:term],*])
section
variable {c g : List Cell} {X : XP} {P : W → Sto → Prop} {n : Nat} {w x y : W}
theorem run_exc {α : Type} {r : Res α} {k : Nat} {p : W} {t : Sto} (h : Ok r (fun k' p' t' => k' = k ∧ p' = p ∧ t' = t) fun _ _ => False) : r = .exc k p t := by
  cases r with
  | ok b u => exact h.elim
  | exc k' p' u => obtain ⟨rfl, rfl, rfl⟩ := h; rfl
  | err => exact h.elim
theorem kx {α : Type} {r : Res α} {k : Nat} {p : W} {t : Sto} (h : r = .exc k p t) (X : XP) (P : α → Sto → Prop) : Ok r X P = X k p t := by rw [h]; rfl
def isInt : W → Bool
  | .int _ => true
  | _ => false
def isBl : W → Bool
  | .bl _ => true
  | _ => false
def wiB (lo hi : Int) : W → Bool
  | .int z => decide (lo ≤ z) && decide (z ≤ hi)
  | _ => false
theorem int_any (h : W.pure w = true) : F_is_integer [w] (C c) = .ok (.bl (isInt w)) (C c) := by
  refine run_eq ?_
  unfold F_is_integer
  cases w with
  | ref n => cases h
  | non => exists k_isi, tnOf, ans_int, ans_bool; rw [c_trim0 rfl]; exact ⟨rfl, rfl⟩
  | bl b => exists k_isi, tnOf, ans_int, ans_bool; rw [c_trim0 rfl]; exact ⟨rfl, rfl⟩
  | int b => exists k_isi, tnOf, ans_int, ans_bool; rw [c_trim0 rfl]; exact ⟨rfl, rfl⟩
  | str b => exists k_isi, tnOf, ans_int, ans_bool; rw [c_trim0 rfl]; exact ⟨rfl, rfl⟩
  | tup b => exists k_isi, tnOf, ans_int, ans_bool; rw [c_trim0 rfl]; exact ⟨rfl, rfl⟩
theorem wi_any (h : W.pure w = true) (lo hi : Int) : F_is_integer_within [w, .int lo, .int hi] (C c) = .ok (.bl (wiB lo hi w)) (C c) := by
  cases hi2 : isInt w with
  | true =>
    cases w with
    | int z => exact within_ok z lo hi
    | _ => cases hi2
  | false =>
    refine run_eq ?_
    unfold F_is_integer_within
    have i := int_any (c := c) h
    rw [hi2] at i
    exists kk i
    rw [c_trim0 rfl]
    refine ⟨?_, rfl⟩
    cases w with
    | int z => cases hi2
    | _ => rfl
theorem seq_sq {ws : List W} (h : seqOf (C c) x = some ws) : F_is_sequence [x] (C c) = .ok (.bl true) (C c) := by
  refine run_eq ?_
  unfold F_is_sequence
  have tn : tnOf (C c) x = some .tup ∨ tnOf (C c) x = some .lst := by
    cases x with
    | tup us => exact .inl rfl
    | ref k =>
      refine .inr ?_
      unfold seqOf RB.getL at h
      dsimp only at h
      show (match c[k]? with | some (.lst _) => some Tn.lst | some (.scr _) => some Tn.lst | some (.ins c _) => some (.cls c) | some (.dct _) => none | none => none) = _
      cases e : c[k]? with
      | none => rw [e] at h; cases h
      | some cc => cases cc with
        | lst _ => rfl
        | scr _ => rfl
        | ins _ _ => rw [e] at h; cases h
        | dct _ => rw [e] at h; cases h
    | _ => cases h
  rcases tn with tn | tn
  · exists k_isi, tn, ans_list_tuple
    rw [c_trim0 rfl]; exact ⟨rfl, rfl⟩
  · exists k_isi, tn, ans_list_tuple
    rw [c_trim0 rfl]; exact ⟨rfl, rfl⟩
theorem boolsK (f : W → Bool) : ∀ ws : List W, bools (ws.map fun w => .bl (f w)) = some (ws.map f)
  | [] => rfl
  | a :: r => by
    show (bools (r.map fun w => W.bl (f w))).map (f a :: ·) = _
    rw [boolsK f r]; rfl
theorem allK (f : W → Bool) (ws : List W) : (ws.map f).all id = ws.all f := by rw [List.all_map]; rfl
theorem sq_app {ws : List W} (h : seqOf (C c) x = some ws) (g : List Cell) : seqOf (C (c ++ g)) x = some ws := by
  cases x with
  | tup us => exact h
  | ref k =>
    unfold seqOf RB.getL at h ⊢
    dsimp only at h ⊢
    cases e : c[k]? with
    | none => rw [e] at h; cases h
    | some cc => rw [e] at h; rw [show (c ++ g)[k]? = some cc from get_app e]; exact h
  | _ => cases h
theorem vseqK {ws : List W} {i : Nat} {l : Lo} (h : seqOf (C c) x = some ws) (hl : l[i]? = some (some x)) : ∃ sr : Src, (∀ g j, sr.at (C (c ++ g)) j = some ws[j]?) ∧ ∀ (X : XP) (P : Src → Sto → Prop), Ok (vSeq (eLoc i) l (C c)) X P = P sr (C c) := by
  cases x with
  | tup us =>
    cases h
    exact ⟨.fix ws, fun _ _ => rfl, fun X P => by rw [k_vSeq, k_loc, hl]⟩
  | ref n =>
    have h2 : RB.getL (C c) n = some ws := h
    refine ⟨.live n, fun g j => ?_, fun X P => by rw [k_vSeq, k_loc, hl]; dsimp only; rw [h2]⟩
    have h3 : RB.getL (C (c ++ g)) n = some ws := sq_app h g
    show (RB.getL (C (c ++ g)) n).map _ = _
    rw [h3]; rfl
  | _ => cases h
theorem runners_any {ws : List W} (hx : seqOf (C c) x = some ws) (hp : ∀ w ∈ ws, W.pure w = true) (hl : ws.length < 1000000) (m : Int) : F__are_runners [x, .int m] (C c) = .ok (.bl (ws.all (wiB 0 (m - 1)))) (C c) := by
  refine run_eq ?_
  unfold F__are_runners
  obtain ⟨sr, sat, vs⟩ := vseqK (c := c) (i := 0) (l := [some x, some (.int m), none]) hx rfl
  have push : (C c).push (.lst []) = C (c ++ .lst [] :: []) := rfl
  exists kk (seq_sq hx), truth, vs, push
  refine cl_map (c := c) (s := sr) (ws := ws) (fun us i => sat _ i) (fun w => .bl (wiB 0 (m - 1) w)) hl (fun w hw => ?_) ?_
  · refine ⟨_, fun _ => rfl, rfl, fun us => run_eq ?_⟩
    have wi := wi_any (c := c ++ .lst us :: []) (hp w hw) 0 (m - 1)
    exists wipeL, kk wi
  · rw [v_all (show RB.getL _ _ = _ from c_seq) (boolsK _ ws), allK, c_trim rfl]
    exact ⟨rfl, rfl⟩
theorem cuts_any {ws : List W} (hx : seqOf (C c) x = some ws) (hp : ∀ w ∈ ws, W.pure w = true) (hl : ws.length < 1000000) (m : Int) : F__are_cuts [x, .int m] (C c) = .ok (.bl ((decide (ws.length = 0) || decide (m = (ws.length : Nat))) && ws.all (wiB 0 90))) (C c) := by
  refine run_eq ?_
  unfold F__are_cuts
  obtain ⟨sr, sat, vs⟩ := vseqK (c := c) (i := 0) (l := [some x, some (.int m), none]) hx rfl
  have push : (C c).push (.lst []) = C (c ++ .lst [] :: []) := rfl
  have ln : ∀ (X : XP) (P : W → Sto → Prop), Ok (fLen [x] (C c)) X P = P (.int (ws.length : Nat)) (C c) := fun X P => by
    cases x with
    | tup us => cases hx; exact v_lenL (by intro z h; cases h) rfl
    | ref k => exact v_lenL (by intro z h; cases h) (show seqOf _ _ = _ from hx)
    | _ => cases hx
  have nin : ∀ (X : XP) (P : W → Sto → Prop), Ok (wNotIn (.int (ws.length : Nat)) (.tup [.int 0, .int m]) (C c)) X P = P (.bl (!(decide (ws.length = 0) || decide (m = (ws.length : Nat))))) (C c) := fun X P => by
    have e : wNotIn (.int (ws.length : Nat)) (.tup [.int 0, .int m]) (C c) = .ok (.bl (!(((0 : Int) == (ws.length : Int)) || (((m == (ws.length : Int)) || false))))) (C c) := by
      first | rfl | simp [wNotIn, datOf, seqOf, W.dats, W.dat, PyData.eqv]
    rw [e]
    show P (.bl _) _ = _
    have e1 : ((0 : Int) == (ws.length : Int)) = decide (ws.length = 0) := by
      by_cases h : ws.length = 0
      · rw [h]; rfl
      · rw [decide_eq_false h]; exact beq_eq_false_iff_ne.mpr (by omega)
    have e2 : (m == (ws.length : Int)) = decide (m = (ws.length : Nat)) := by
      by_cases h : m = (ws.length : Nat)
      · rw [decide_eq_true h]; exact beq_iff_eq.mpr h
      · rw [decide_eq_false h]; exact beq_eq_false_iff_ne.mpr h
    rw [e1, e2, Bool.or_false]
  cases hb : (decide (ws.length = 0) || decide (m = (ws.length : Nat))) with
  | false =>
    rw [hb] at nin
    exists kk (seq_sq hx), ln, (by decide : (2 : Nat) ≤ 1000), nin, truth, Bool.not_false
    rw [c_trim0 rfl]
    exact ⟨rfl, rfl⟩
  | true =>
    rw [hb] at nin
    exists kk (seq_sq hx), ln, (by decide : (2 : Nat) ≤ 1000), nin, truth, Bool.not_true, vs, push
    refine cl_map (c := c) (s := sr) (ws := ws) (fun us i => sat _ i) (fun w => .bl (wiB 0 90 w)) hl (fun w hw => ?_) ?_
    · refine ⟨_, fun _ => rfl, rfl, fun us => run_eq ?_⟩
      have wi := wi_any (c := c ++ .lst us :: []) (hp w hw) 0 90
      exists wipeL, kk wi
    · rw [v_all (show RB.getL _ _ = _ from c_seq) (boolsK _ ws), allK, c_trim rfl]
      exact ⟨rfl, rfl⟩
theorem wiB_ints (ks : List Int) (lo hi : Int) : ((ks.map W.int).all (wiB lo hi)) = ks.all fun k => decide (lo ≤ k) && decide (k ≤ hi) := by rw [List.all_map]; rfl
theorem eqv_int2 : ∀ a b : List Int, PyData.eqvAll (a.map .int) (b.map .int) = decide (a = b)
  | [], [] => rfl
  | [], _ :: _ => rfl
  | _ :: _, [] => rfl
  | x :: a, y :: b => by
    have e : PyData.eqv (.int x) (.int y) = decide (x = y) := by
      simp only [PyData.eqv]
      by_cases h : x = y
      · subst h; simp
      · rw [decide_eq_false h]; simpa using h
    show (PyData.eqv (.int x) (.int y) && PyData.eqvAll (a.map .int) (b.map .int)) = _
    rw [e, eqv_int2 a b]
    by_cases h : x = y <;> by_cases h2 : a = b <;> simp [h, h2]
theorem eq_listI (a b : List Int) {st : Sto} {j k : Nat} (hj : RB.getL st j = some (a.map .int)) (hk : RB.getL st k = some (b.map .int)) : wEq (.ref j) (.ref k) st = .ok (.bl (decide (a = b))) st := by
  unfold wEq
  have d : ∀ (j : Nat) (l : List Int), RB.getL st j = some (l.map .int) → datOf st (.ref j) = some (.list (l.map .int)) := fun j l hj => by
    show (match RB.getL st j with | some ws => (W.dats 8 ws).map PyData.list | none => none) = _
    rw [hj]
    show (W.dats 8 (l.map .int)).map PyData.list = _
    rw [dats_ints]; rfl
  rw [d j a hj, d k b hk]
  show Res.ok (W.bl (PyData.eqvAll (a.map .int) (b.map .int))) st = _
  rw [eqv_int2]
theorem asc_ints {ks : List Int} (hx : seqOf (C c) x = some (ks.map .int)) (hl : ks.length < 60) {m : Int} (hin : ∀ k ∈ ks, 0 ≤ k ∧ k ≤ m - 1) : F__is_ascending [x, .int m] (C c) = .ok (.bl (decide (ks = L2.setI ks))) (C c) := by
  refine run_eq ?_
  unfold F__is_ascending
  have r := runners_any (c := c) hx (fun w hw => by obtain ⟨k, _, rfl⟩ := List.mem_map.mp hw; rfl) (by rw [List.length_map]; omega) m
  rw [wiB_ints, List.all_eq_true.mpr fun k hk => by have := hin k hk; simp [this.1, this.2]] at r
  have fl : ∀ (X : XP) (P : W → Sto → Prop), Ok (fList [x] (C c)) X P = P (.ref c.length) (C (c ++ .lst (ks.map .int) :: [])) := fun X P => by
    unfold fList
    dsimp only
    rw [show seqOf (C c) x = some (ks.map .int) from hx]; rfl
  have hx2 : seqOf (C (c ++ .lst (ks.map .int) :: [])) x = some (ks.map .int) := sq_app hx _
  have fs : ∀ (X : XP) (P : W → Sto → Prop), Ok (fSortSet x (C (c ++ .lst (ks.map .int) :: []))) X P = P (.ref (c.length + 1)) (C ((c ++ .lst (ks.map .int) :: []) ++ .lst ((L2.setI ks).map .int) :: [])) := fun X P => by
    unfold fSortSet
    have e : (seqOf (C (c ++ .lst (ks.map .int) :: [])) x).bind intsOf = some ks := by rw [hx2]; exact ints_of ks
    simp only [e, hl, if_true, List.length_append, List.length_cons, List.length_nil, Nat.zero_add]
    rfl
  have eq : ∀ (X : XP) (P : W → Sto → Prop), Ok (wEq (.ref c.length) (.ref (c.length + 1)) (C ((c ++ .lst (ks.map .int) :: []) ++ .lst ((L2.setI ks).map .int) :: []))) X P = P (.bl (decide (ks = L2.setI ks))) (C ((c ++ .lst (ks.map .int) :: []) ++ .lst ((L2.setI ks).map .int) :: [])) := fun X P => by
    have g1 : RB.getL (C ((c ++ .lst (ks.map .int) :: []) ++ .lst ((L2.setI ks).map .int) :: [])) c.length = some (ks.map .int) := by
      unfold RB.getL; rw [List.append_assoc]; exact by rw [show ([Cell.lst (ks.map W.int)] ++ [Cell.lst ((L2.setI ks).map W.int)]) = Cell.lst (ks.map W.int) :: [Cell.lst ((L2.setI ks).map W.int)] from rfl, c_get]
    have g2 : RB.getL (C ((c ++ .lst (ks.map .int) :: []) ++ .lst ((L2.setI ks).map .int) :: [])) (c.length + 1) = some ((L2.setI ks).map .int) := by
      have := c_get (c := c ++ [Cell.lst (ks.map W.int)]) (x := .lst ((L2.setI ks).map .int)) (g := [])
      rw [List.length_append] at this
      unfold RB.getL; rw [show c.length + 1 = c.length + [Cell.lst (ks.map W.int)].length from rfl, this]
    rw [kk (eq_listI ks (L2.setI ks) g1 g2)]
  exists kk r, truth, fl, fs, eq
  rw [List.append_assoc, c_trim rfl]
  exact ⟨rfl, rfl⟩
end
set_option Elab.async false
set_option linter.all false
set_option maxRecDepth 100000
set_option maxHeartbeats 4000000
section
variable {c g : List Cell} {X : XP} {P : W → Sto → Prop} {n : Nat} {t : Bool} {as cu : List Int} {w x y : W}
def cutsI (n : Nat) (cu : List Int) : List Int := if cu.length = 0 then List.replicate n 0 else cu
def raceG (n : Nat) (t : Bool) (as cu : List Int) : Cell := .ins 0 [("_runners", .int n), ("_ties", .bl t), ("_absent", .tup (as.map .int)), ("_cuts", .tup ((cutsI n cu).map .int))]
structure RcOk (n : Nat) (as cu : List Int) : Prop where
  h1 : 1 ≤ n
  h4 : n ≤ 4
  ab : ∀ k ∈ as, 0 ≤ k ∧ k ≤ (n : Int) - 1
  al : as.length < 60
  st : as = L2.setI as
  cu : cutsOk n cu
theorem cuts_bd (h : cutsOk n cu) : ∀ k ∈ cu, 0 ≤ k ∧ k ≤ 90 := fun k hk => by
  rcases h with rfl | ⟨_, h⟩
  · cases hk
  · exact h k hk
theorem cuts_ln (h : cutsOk n cu) (h4 : n ≤ 4) : cu.length ≤ 4 := by
  rcases h with rfl | ⟨h, _⟩
  · exact Nat.zero_le _
  · omega
theorem cuts_good (h : cutsOk n cu) (h4 : n ≤ 4) (hx : seqOf (C c) x = some (cu.map .int)) : F__are_cuts [x, .int (n : Nat)] (C c) = .ok (.bl true) (C c) := by
  have q := cuts_any (c := c) hx (fun w hw => by obtain ⟨k, _, rfl⟩ := List.mem_map.mp hw; rfl) (by rw [List.length_map]; have := cuts_ln h h4; omega) (n : Nat)
  rw [wiB_ints, List.all_eq_true.mpr fun k hk => by have := cuts_bd h k hk; simp [this.1, this.2], Bool.and_true, List.length_map] at q
  have e : (decide (cu.length = 0) || decide (((n : Nat) : Int) = (cu.length : Nat))) = true := by
    rcases h with rfl | ⟨h, _⟩
    · rfl
    · rw [h, decide_eq_true (rfl : ((n : Nat) : Int) = (n : Nat)), Bool.or_true]
  rw [e] at q
  exact q
theorem asc_good (h : RcOk n as cu) (hx : seqOf (C c) x = some (as.map .int)) : F__is_ascending [x, .int (n : Nat)] (C c) = .ok (.bl true) (C c) := by
  have q := asc_ints (c := c) hx h.al (m := (n : Nat)) h.ab
  rw [decide_eq_true h.st] at q
  exact q
theorem n_good (h1 : 1 ≤ n) (h4 : n ≤ 4) : F_is_integer_within [.int (n : Nat), .int 1, .int 4] (C c) = .ok (.bl true) (C c) := by
  have q := within_ok (c := c) (n : Nat) 1 4
  have e : (decide ((1 : Int) ≤ (n : Int)) && decide ((n : Int) ≤ 4)) = true := by simp; omega
  rw [e] at q
  exact q
theorem ints_low2 (m : Nat) (l : List Int) : W.low m (.tup (l.map .int)) = true := ints_low m _
theorem init_gen (h : RcOk n as cu) (hx : seqOf (C c) x = some (as.map .int)) (hy : seqOf (C c) y = some (cu.map .int)) :
    F_Race_init [.ref c.length, .int (n : Nat), .bl t, x, y] (C (c ++ .ins 0 [] :: [])) = .ok .non (C (c ++ raceG n t as cu :: [])) := by
  refine run_eq ?_
  unfold F_Race_init
  have ln : ∀ (g : List Cell) (X : XP) (P : W → Sto → Prop), Ok (fLen [y] (C (c ++ g))) X P = P (.int (cu.length : Nat)) (C (c ++ g)) := fun g X P => by
    have hy2 := sq_app hy g
    cases y with
    | tup us => cases hy2; rw [v_lenL (by intro z h; cases h) (ws := cu.map .int) rfl, List.length_map]
    | ref k => rw [v_lenL (by intro z h; cases h) (show seqOf _ _ = _ from hy2), List.length_map]
    | _ => cases hy2
  have tx : ∀ (g : List Cell) (X : XP) (P : W → Sto → Prop), Ok (fTuple [x] (C (c ++ g))) X P = P (.tup (as.map .int)) (C (c ++ g)) := fun g X P => v_tup (sq_app hx g)
  have ty : ∀ (g : List Cell) (X : XP) (P : W → Sto → Prop), Ok (fTuple [y] (C (c ++ g))) X P = P (.tup (cu.map .int)) (C (c ++ g)) := fun g X P => v_tup (sq_app hy g)
  have ml : ∀ (st : Sto) (X : XP) (P : W → Sto → Prop), Ok (wMul (.tup [.int 0]) (.int (n : Nat)) st) X P = P (.tup (List.replicate n (.int 0))) st := fun st X P => by
    have h1 := h.h1
    have h4 := h.h4
    have : n = 1 ∨ n = 2 ∨ n = 3 ∨ n = 4 := by omega
    rcases this with rfl | rfl | rfl | rfl <;> rfl
  have w1 := n_good (c := c ++ .ins 0 [] :: []) h.h1 h.h4
  have w2 := asc_good (c := c ++ .ins 0 [] :: []) h (sq_app hx _)
  have w3 := cuts_good (c := c ++ .ins 0 [] :: []) h.cu h.h4 (sq_app hy _)
  exists kk w1, kk w2, kk w3, k_isi, tnOf, ans_bool, truth, Bool.not_true, k_sFldW
  rw [v_fldw (by decide) rfl]
  exists k_sFldW
  rw [v_fldw (by show 1 < 1000; decide) rfl]
  exists tx
  rw [v_fldw (by show 2 < 1000; decide) (ints_low2 _ _)]
  exists ln, ty, ml, (by decide : (1 : Nat) ≤ 1000)
  have fin : ∀ ws, ws = (cutsI n cu).map W.int → OkS (fldw 0 (Str.ofString "_cuts") (.tup ws) (.ref c.length) [some (.ref c.length), some (.int (n : Nat)), some (.bl t), some x, some y] (C (c ++ .ins 0 (putW "_absent" (.tup (as.map .int)) (putW "_ties" (.bl t) (putW "_runners" (.int (n : Nat)) []))) :: [])))
      { nx := fun _ st' => Ok (trim (c ++ [Cell.ins 0 []]).length W.non st') (fun _ _ _ => False) fun b t_1 => b = W.non ∧ t_1 = C (c ++ [raceG n t as cu]), rt := fun w st' => Ok (trim (c ++ [Cell.ins 0 []]).length w st') (fun _ _ _ => False) fun b t_1 => b = W.non ∧ t_1 = C (c ++ [raceG n t as cu]), bk := fun _ _ => False, ct := fun _ _ => False, ex := fun _ _ _ _ => False } := fun ws hw => by
    rw [v_fldw (by show 3 < 1000; decide) (by rw [hw]; exact ints_low2 _ _)]
    dsimp only
    rw [k_trim rfl, show (c ++ [Cell.ins 0 []]).length = (c ++ Cell.ins 0 (putW "_cuts" (.tup ws) (putW "_absent" (.tup (as.map .int)) (putW "_ties" (.bl t) (putW "_runners" (.int (n : Nat)) [])))) :: []).length by simp, List.take_length, hw]
    exact ⟨rfl, rfl⟩
  by_cases h0 : (0 : Int) < (cu.length : Nat)
  · rw [if_pos h0]
    refine fin _ ?_
    unfold cutsI; rw [if_neg (by omega)]
  · rw [if_neg h0]
    refine fin _ ?_
    unfold cutsI; rw [if_pos (by omega), List.map_replicate]
theorem x_may (w : W) (h : W.pure w = true) : ((C c).may c.length && W.pure w) = true := by rw [h]; rfl
theorem x_cut : (C c).cut c.length = C c := by
  unfold Sto.cut
  rw [List.take_length]
inductive Bad (n : Nat) (t : Bool) (as cu : List Int) : W → W → W → W → Int → Prop
  | one {a b d e : W} (h : W.pure a = true) (h2 : wiB 1 4 a = false) : Bad n t as cu a b d e 1
  | two {b d e : W} (h : W.pure b = true) (h2 : isBl b = false) : Bad n t as cu (.int (n : Nat)) b d e 2
  | three {d e : W} (h : ∀ c, F__is_ascending [d, .int (n : Nat)] (C c) = .ok (.bl false) (C c)) : Bad n t as cu (.int (n : Nat)) (.bl t) d e 3
  | four {e : W} (h : ∀ c, F__are_cuts [e, .int (n : Nat)] (C c) = .ok (.bl false) (C c)) : Bad n t as cu (.int (n : Nat)) (.bl t) (.tup (as.map .int)) e 4
theorem init_bad (h : RcOk n as cu) {a b d e : W} {k : Int} (hB : Bad n t as cu a b d e k) {z : W} : F_Race_init [z, a, b, d, e] (C c) = .exc 0 (.int k) (C c) := by
  refine run_exc ?_
  unfold F_Race_init
  cases hB with
  | one h1 h2 =>
    have q := wi_any (c := c) h1 1 4
    rw [h2] at q
    exists kk q, truth, Bool.not_false
    rw [if_pos (x_may _ rfl)]; first | exact x_cut | exact ⟨rfl, rfl, x_cut⟩
  | two h1 h2 =>
    have w1 := n_good (c := c) h.h1 h.h4
    cases b with
    | bl v => cases h2
    | ref v => cases h1
    | non => exists kk w1, k_isi, tnOf, ans_bool, truth, Bool.not_true, Bool.not_false; (rw [if_pos (x_may _ rfl)]; first | exact x_cut | exact ⟨rfl, rfl, x_cut⟩)
    | int v => exists kk w1, k_isi, tnOf, ans_bool, truth, Bool.not_true, Bool.not_false; (rw [if_pos (x_may _ rfl)]; first | exact x_cut | exact ⟨rfl, rfl, x_cut⟩)
    | str v => exists kk w1, k_isi, tnOf, ans_bool, truth, Bool.not_true, Bool.not_false; (rw [if_pos (x_may _ rfl)]; first | exact x_cut | exact ⟨rfl, rfl, x_cut⟩)
    | tup v => exists kk w1, k_isi, tnOf, ans_bool, truth, Bool.not_true, Bool.not_false; (rw [if_pos (x_may _ rfl)]; first | exact x_cut | exact ⟨rfl, rfl, x_cut⟩)
  | three h1 =>
    have w1 := n_good (c := c) h.h1 h.h4
    exists kk w1, kk (h1 c), k_isi, tnOf, ans_bool, truth, Bool.not_true, Bool.not_false
    rw [if_pos (x_may _ rfl)]; first | exact x_cut | exact ⟨rfl, rfl, x_cut⟩
  | four h1 =>
    have w1 := n_good (c := c) h.h1 h.h4
    have w2 := asc_good (c := c) (x := .tup (as.map .int)) h rfl
    exists kk w1, kk w2, kk (h1 c), k_isi, tnOf, ans_bool, truth, Bool.not_true, Bool.not_false
    rw [if_pos (x_may _ rfl)]; first | exact x_cut | exact ⟨rfl, rfl, x_cut⟩
variable {n' p q : Nat} {t' : Bool} {as' cu' : List Int}
end
end LW
namespace LW.G
open PySem PySem.W RB L2
local macro_rules | `(tactic| exists $es,*) => `(tactic| simp (config := {decide := false, implicitDefEqProofs := false, maxSteps := 1000000}) only [k_ok, k_exc, k_err, k_ite, k_iteS, k_nx, k_rt, k_loc, k_lit, k_nil, k_cons, k_tup, k_lst, k_bin, k_eB, k_eU, k_call, k_tru, k_not, k_and, k_or, k_if, k_eAnd, k_eOr, k_eNot, k_val, k_chain, k_sNil, k_sSeq, k_sSet, tgName, tgCons, tgNil, Option.bind_some, k_sDrop, k_sRet, k_sRetN, k_sIf, k_sBreak, k_sCont, k_sFor, k_sRaise, k_sTry, k_defn, k_rng1, k_comp,
  v_add, v_sub, v_mul, v_mod, v_div, v_lt, v_le, v_gt, v_ge, v_eq, v_ne, v_neg, v_int, v_min,
  List.map_cons, List.map_nil, List.length_cons, List.length_nil, List.replicate_succ, List.replicate_zero, List.cons_append, List.nil_append, List.append_nil, List.getElem?_cons_succ, List.getElem?_cons_zero, List.set_cons_succ, List.set_cons_zero,
  Nat.reduceAdd, Nat.reduceSub, Nat.zero_add, decide_eq_true_eq, Bool.not_eq_true', decide_eq_false_iff_not, Bool.true_eq_false, Bool.false_eq_true, if_true, if_false, ite_true, ite_false, ite_self, reduceIte, Nat.reduceLeDiff, true_and, and_true, not_true_eq_false, not_false_eq_true, decide_true, decide_false, Bool.not_true, Bool.not_false, $[$es:term],*])
section
variable {c g : List Cell} {X : XP} {P : W → Sto → Prop} {k s : Rat} {n : Nat} {w x y : W}
theorem run_exc {α : Type} {r : Res α} {k : Nat} {p : W} {t : Sto} (h : Ok r (fun k' p' t' => k' = k ∧ p' = p ∧ t' = t) fun _ _ => False) : r = .exc k p t := by
  cases r with
  | ok b u => exact h.elim
  | exc k' p' u => obtain ⟨rfl, rfl, rfl⟩ := h; rfl
  | err => exact h.elim
theorem kx {α : Type} {r : Res α} {k : Nat} {p : W} {t : Sto} (h : r = .exc k p t) (X : XP) (P : α → Sto → Prop) : Ok r X P = X k p t := by rw [h]; rfl
end
set_option Elab.async false
set_option linter.all false
set_option maxRecDepth 100000
set_option maxHeartbeats 4000000
section
variable {c g : List Cell} {X : XP} {P : W → Sto → Prop} {l : Lo} {st : Sto} {s s' : Str}
theorem k_ms0 {F : Str → List W → Sto → Res W} {o : Ev} : Ok (eMs0 F o l st) X P = Ok (o l st) X fun x st1 => match x with | .str s => Ok (F s [] st1) X P | _ => False := by
  unfold eMs0; rw [k_bind]; congr 1; funext x st1; cases x <;> rfl
theorem k_ms {F : Str → List W → Sto → Res W} {o : Ev} {a : Evs} : Ok (eMs F o a l st) X P = Ok (o l st) X fun x st1 => match x with | .str s => Ok (a l st1) X fun ws st2 => Ok (F s ws st2) X P | _ => False := by
  unfold eMs; rw [k_bind]; congr 1; funext x st1; cases x <;> first | rfl | (dsimp only; rw [k_bind])
theorem v_is {f : Str → Bool} : Ok (fIs f s [] st) X P = P (.bl (f s)) st := rfl
theorem v_lenS (h : s.length ≤ 1000000) : Ok (fLen [.str s] st) X P = P (.int (s.length : Nat)) st := by
  unfold fLen; dsimp only; rw [if_pos h]; rfl
theorem v_ixT {z : Nat} {i : Int} (h : atI s.cps.toList i = some z) (hl : s.length ≤ 1000000) : Ok (wIxT (.str s) (.int i) st) X P = P (.str ⟨#[z]⟩) st := by
  unfold wIxT; dsimp only; rw [h]; dsimp only; rw [if_pos hl]; rfl
def asc (s : Str) : Prop := ∀ z ∈ s.cps.toList, z < 128
theorem asc_ok (h : asc s) : PyData.strOk s = true := by
  unfold PyData.strOk
  rw [Array.all_eq_true']
  intro x hx
  rw [decide_eq_true_eq]
  exact Nat.lt_trans (h x (Array.mem_toList_iff.mpr hx)) (by decide)
theorem weq_str (h : asc s) (h' : asc s') (st : Sto) : wEq (.str s) (.str s') st = .ok (.bl (decide (s = s'))) st := by
  have d : ∀ {x : Str}, asc x → datOf st (.str x) = some (.str x) := fun {x} hx => by
    show (if PyData.strOk x = true then some (PyData.str x) else none) = _
    rw [if_pos (asc_ok hx)]
  unfold wEq
  rw [d h, d h']
  show Res.ok (W.bl (PyData.eqv (.str s) (.str s'))) st = _
  have : PyData.eqv (.str s) (.str s') = decide (s = s') := by
    have : PyData.eqv (.str s) (.str s') = (s == s') := by first | rfl | simp [PyData.eqv]
    rw [this, Bool.eq_iff_iff]; simp
  rw [this]
theorem wne_str (h : asc s) (h' : asc s') (st : Sto) : wNe (.str s) (.str s') st = .ok (.bl (!decide (s = s'))) st := by
  have d : ∀ {x : Str}, asc x → datOf st (.str x) = some (.str x) := fun {x} hx => by
    show (if PyData.strOk x = true then some (PyData.str x) else none) = _
    rw [if_pos (asc_ok hx)]
  unfold wNe
  rw [d h, d h']
  show Res.ok (W.bl (!PyData.eqv (.str s) (.str s'))) st = _
  have : PyData.eqv (.str s) (.str s') = decide (s = s') := by
    have : PyData.eqv (.str s) (.str s') = (s == s') := by first | rfl | simp [PyData.eqv]
    rw [this, Bool.eq_iff_iff]; simp
  rw [this]
theorem asc_of {p : Str} (h : asc s) (hp : ∀ z ∈ p.cps.toList, z ∈ s.cps.toList) : asc p := fun z hz => h z (hp z hz)
theorem spl_mem {S : List Nat} : ∀ (l : List Nat) (k : Nat) (acc : List Nat), ∀ p ∈ TL.spl S k acc l, ∀ z ∈ p, z ∈ acc ∨ z ∈ l
  | [], k, acc, p, hp, z, hz => by
    rw [TL.spl_nil] at hp
    rw [List.mem_singleton.mp hp] at hz
    exact .inl hz
  | a :: r, 0, acc, p, hp, z, hz => by
    have hp : p ∈ (if TL.pre S (a :: r) = true then acc :: TL.spl S (S.length - 1) [] r else TL.spl S 0 (acc ++ [a]) r) := hp
    split at hp
    · rcases List.mem_cons.mp hp with rfl | hp
      · exact .inl hz
      · rcases spl_mem r _ [] p hp z hz with q | q
        · cases q
        · exact .inr (List.mem_cons_of_mem _ q)
    · rcases spl_mem r 0 (acc ++ [a]) p hp z hz with q | q
      · rcases List.mem_append.mp q with q | q
        · exact .inl q
        · rw [List.mem_singleton.mp q]; exact .inr List.mem_cons_self
      · exact .inr (List.mem_cons_of_mem _ q)
  | a :: r, k + 1, acc, p, hp, z, hz => by
    rcases spl_mem r k acc p hp z hz with q | q
    · exact .inl q
    · exact .inr (List.mem_cons_of_mem _ q)
theorem spl_len {S : List Nat} : ∀ (l : List Nat) (k : Nat) (acc : List Nat), (TL.spl S k acc l).length ≤ l.length + 1 ∧ ∀ p ∈ TL.spl S k acc l, p.length ≤ acc.length + l.length
  | [], k, acc => by
    rw [TL.spl_nil]
    exact ⟨Nat.le_refl _, fun p hp => by rw [List.mem_singleton.mp hp]; exact Nat.le_refl _⟩
  | a :: r, 0, acc => by
    have e : TL.spl S 0 acc (a :: r) = (if TL.pre S (a :: r) = true then acc :: TL.spl S (S.length - 1) [] r else TL.spl S 0 (acc ++ [a]) r) := rfl
    rw [e]
    split
    · obtain ⟨h1, h2⟩ := spl_len (S := S) r (S.length - 1) []
      refine ⟨by rw [List.length_cons, List.length_cons]; omega, fun p hp => ?_⟩
      rcases List.mem_cons.mp hp with rfl | hp
      · omega
      · have := h2 p hp; rw [List.length_nil] at this; rw [List.length_cons]; omega
    · obtain ⟨h1, h2⟩ := spl_len (S := S) r 0 (acc ++ [a])
      refine ⟨by rw [List.length_cons]; omega, fun p hp => ?_⟩
      have := h2 p hp
      rw [List.length_append] at this
      rw [List.length_cons]
      have e2 : [a].length = 1 := rfl
      omega
  | a :: r, k + 1, acc => by
    obtain ⟨h1, h2⟩ := spl_len (S := S) r k acc
    refine ⟨by rw [List.length_cons]; show (TL.spl S k acc r).length ≤ _; omega, fun p hp => ?_⟩
    have := h2 p hp
    rw [List.length_cons]; omega
theorem split_parts {y p : Str} (hy : TL.tl y ≠ []) (hk : y.cps.all (· < 256) = true) (h : p ∈ Txt.split s y) : (∀ z ∈ p.cps.toList, z ∈ s.cps.toList) ∧ p.length ≤ s.length := by
  have e := TL.split_spl s y hy (TL.kind_ok hk)
  have hp : TL.tl p ∈ TL.spl (TL.tl y) 0 [] (TL.tl s) := by rw [← e]; exact List.mem_map_of_mem h
  refine ⟨fun z hz => ?_, ?_⟩
  · rcases spl_mem _ _ _ _ hp z hz with q | q
    · cases q
    · exact q
  · have := (spl_len (S := TL.tl y) (TL.tl s) 0 []).2 _ hp
    rw [List.length_nil, Nat.zero_add, ← TL.len_tl, ← TL.len_tl] at this
    exact this
theorem split_len {y : Str} (hy : TL.tl y ≠ []) (hk : y.cps.all (· < 256) = true) : (Txt.split s y).length ≤ s.length + 1 := by
  have e := congrArg List.length (TL.split_spl s y hy (TL.kind_ok hk))
  rw [List.length_map] at e
  rw [e, TL.len_tl]
  exact (spl_len _ _ _).1
theorem par_mem {S : List Nat} (hS : S ≠ []) : ∀ (l acc : List Nat) {a b : List Nat}, TL.par S acc l = some (a, b) → (∀ z ∈ a, z ∈ acc ∨ z ∈ l) ∧ (∀ z ∈ b, z ∈ l) ∧ a.length + b.length + S.length ≤ acc.length + l.length
  | [], acc, a, b, h => by cases h
  | x :: r, acc, a, b, h => by
    have h : (if TL.pre S (x :: r) = true then some (acc, (x :: r).drop S.length) else TL.par S (acc ++ [x]) r) = some (a, b) := h
    split at h
    · rename_i hp
      cases h
      refine ⟨fun z hz => .inl hz, fun z hz => List.mem_of_mem_drop hz, ?_⟩
      have hl : S.length ≤ (x :: r).length := by
        have := beq_iff_eq.mp hp
        have := congrArg List.length this
        rw [List.length_take] at this
        omega
      rw [List.length_drop]; omega
    · obtain ⟨h1, h2, h3⟩ := par_mem hS r (acc ++ [x]) h
      refine ⟨fun z hz => ?_, fun z hz => List.mem_cons_of_mem _ (h2 z hz), ?_⟩
      · rcases h1 z hz with q | q
        · rcases List.mem_append.mp q with q | q
          · exact .inl q
          · rw [List.mem_singleton.mp q]; exact .inr List.mem_cons_self
        · exact .inr (List.mem_cons_of_mem _ q)
      · rw [List.length_append] at h3
        rw [List.length_cons]
        have : [x].length = 1 := rfl
        omega
theorem part_parts {y : Str} (hy : TL.tl y ≠ []) : (∀ z ∈ (Txt.partition s y).1.cps.toList, z ∈ s.cps.toList) ∧ (∀ z ∈ (Txt.partition s y).2.2.cps.toList, z ∈ s.cps.toList) ∧ (Txt.partition s y).1.length ≤ s.length ∧ (Txt.partition s y).2.2.length ≤ s.length := by
  have e := TL.partition_par s y hy
  cases h : TL.par (TL.tl y) [] (TL.tl s) with
  | none =>
    rw [h] at e
    rw [e]
    exact ⟨fun z hz => hz, fun z hz => (by cases hz), Nat.le_refl _, Nat.zero_le _⟩
  | some p =>
    obtain ⟨a, b⟩ := p
    rw [h] at e
    obtain ⟨h1, h2, h3⟩ := par_mem hy _ _ h
    rw [List.length_nil, Nat.zero_add] at h3
    have hs := TL.len_tl s
    rw [e]
    refine ⟨fun z hz => ?_, fun z hz => h2 z hz, ?_, ?_⟩
    · rcases h1 z hz with q | q
      · cases q
      · exact q
    · show a.toArray.size ≤ _; rw [List.size_toArray]; omega
    · show b.toArray.size ≤ _; rw [List.size_toArray]; omega
theorem digit_asc : ∀ z, z < 128 → Unicode.isDigit z = true → 48 ≤ z ∧ z ≤ 57 := by
  have h : (List.range 128).all (fun z => !Unicode.isDigit z || (decide (48 ≤ z) && decide (z ≤ 57))) = true := by decide +kernel
  intro z hz hd
  have := List.all_eq_true.mp h z (List.mem_range.mpr hz)
  rw [hd] at this
  simpa using this
def numOk (s : Str) : Prop := Txt.isascii s = true ∧ Txt.isdigit s = true ∧ s.length ≤ 4 ∧ ¬ (atI s.cps.toList 0 = some 48 ∧ s ≠ "0")
instance : Decidable (numOk s) := by unfold numOk; exact inferInstance
def numV (s : Str) : Option Nat := if numOk s then some (NumText.digitsVal s.cps.toList) else none
def optN : Option Nat → W
  | some n => .int (n : Nat)
  | none => .non
theorem asc_iff : Txt.isascii s = true ↔ asc s := by
  unfold Txt.isascii asc
  rw [Array.all_eq_true']
  constructor
  · intro h z hz
    exact of_decide_eq_true (h z (Array.mem_toList_iff.mp hz))
  · intro h z hz
    exact decide_eq_true (h z (Array.mem_toList_iff.mpr hz))
theorem isdigit_get (h : Txt.isdigit s = true) : 0 < s.length ∧ ∀ z ∈ s.cps.toList, Unicode.isDigit z = true := by
  unfold Txt.isdigit at h
  rw [Bool.and_eq_true, decide_eq_true_eq, Array.all_eq_true'] at h
  exact ⟨h.1, fun z hz => h.2 z (Array.mem_toList_iff.mp hz)⟩
theorem zero_asc : asc "0" := fun z hz => by
  have : z = 48 := by simpa using (show z ∈ [48] from hz)
  omega
theorem one_asc {z : Nat} (h : z < 128) : asc ⟨#[z]⟩ := fun x hx => by
  have : x = z := by simpa using (show x ∈ [z] from hx)
  omega
theorem number_ok (hl : s.length ≤ 1000000) : F_number_told [.str s] (C c) = .ok (optN (numV s)) (C c) := by
  refine run_eq ?_
  unfold F_number_told numV
  cases h1 : Txt.isascii s with
  | false =>
    rw [if_neg (fun q : numOk s => by rw [q.1] at h1; cases h1)]
    exists k_ms0, v_is, h1, truth
    rw [c_trim0 rfl]; exact ⟨rfl, rfl⟩
  | true =>
    cases h2 : Txt.isdigit s with
    | false =>
      rw [if_neg (fun q : numOk s => by rw [q.2.1] at h2; cases h2)]
      exists k_ms0, v_is, h1, h2, truth
      rw [c_trim0 rfl]; exact ⟨rfl, rfl⟩
    | true =>
      have ha := asc_iff.mp h1
      obtain ⟨d0, dd⟩ := isdigit_get h2
      have all : ∀ z ∈ s.cps.toList, 48 ≤ z ∧ z ≤ 57 := fun z hz => digit_asc z (ha z hz) (dd z hz)
      by_cases h3 : s.length ≤ 4
      · have n3 : ¬ ((4 : Int) < ((s.length : Nat) : Int)) := by omega
        obtain ⟨z, hz⟩ : ∃ z, atI s.cps.toList 0 = some z := by
          have : 0 < s.cps.toList.length := by rw [Array.length_toList]; exact d0
          refine ⟨s.cps.toList[0], ?_⟩
          rw [atI_in (by decide) (by omega)]
          exact List.getElem?_eq_getElem _
        have zm : z ∈ s.cps.toList := by
          have : 0 < s.cps.toList.length := by rw [Array.length_toList]; exact d0
          rw [atI_in (by decide) (by omega)] at hz
          exact List.mem_of_getElem? hz
        have zr := all z zm
        have e1 := fun st => weq_str (s := ⟨#[z]⟩) (s' := "0") (one_asc (by omega)) zero_asc st
        have e2 := fun st => wne_str (s := s) (s' := "0") ha zero_asc st
        have ne : s.cps.toList ≠ [] := fun q => by rw [q] at zm; cases zm
        have it := PySem.intText_digits (x := s) all ne (by omega)
        have fi : ∀ st, fIntU [.str s] st = .ok (.int ((NumText.digitsVal s.cps.toList : Nat) : Int)) st := fun st => by
          unfold fIntU
          dsimp only
          rw [it]
          dsimp only
          rw [if_pos (by omega)]
        by_cases h4 : z = 48
        · subst h4
          have t1 : decide ((⟨#[48]⟩ : Str) = "0") = true := by decide
          by_cases h5 : s = "0"
          · rw [if_pos ⟨h1, h2, h3, fun q => q.2 h5⟩]
            have t2 : (!decide (s = "0")) = false := by rw [decide_eq_true h5]; rfl
            exists k_ms0, v_is, h1, h2, truth, v_lenS hl, n3, v_ixT hz hl, kk (e1 (C c)), t1, kk (e2 (C c)), t2, kk (fi (C c))
            rw [c_trim0 rfl]; exact ⟨rfl, rfl⟩
          · rw [if_neg (fun q : numOk s => q.2.2.2 ⟨hz, h5⟩)]
            have t2 : (!decide (s = "0")) = true := by rw [decide_eq_false h5]; rfl
            exists k_ms0, v_is, h1, h2, truth, v_lenS hl, n3, v_ixT hz hl, kk (e1 (C c)), t1, kk (e2 (C c)), t2
            rw [c_trim0 rfl]; exact ⟨rfl, rfl⟩
        · rw [if_pos ⟨h1, h2, h3, fun q => h4 (by rw [hz] at q; exact Option.some.inj q.1)⟩]
          have t1 : decide ((⟨#[z]⟩ : Str) = "0") = false := by
            rw [decide_eq_false_iff_not]
            intro q
            have q2 := congrArg (fun x : Str => x.cps.toList) q
            have q3 : [z] = [48] := q2
            cases q3
            exact h4 rfl
          exists k_ms0, v_is, h1, h2, truth, v_lenS hl, n3, v_ixT hz hl, kk (e1 (C c)), t1, kk (fi (C c))
          rw [c_trim0 rfl]; exact ⟨rfl, rfl⟩
      · rw [if_neg (fun q : numOk s => h3 q.2.2.1)]
        have n3 : (4 : Int) < ((s.length : Nat) : Int) := by omega
        exists k_ms0, v_is, h1, h2, truth, v_lenS hl, n3
        rw [c_trim0 rfl]; exact ⟨rfl, rfl⟩
theorem atI_head {α : Type} (a : α) (r : List α) : atI (a :: r) 0 = some a := by
  rw [atI_in (by decide) (by rw [List.length_cons]; omega)]; rfl
end
section
variable {c g : List Cell} {X : XP} {P : W → Sto → Prop} {l : Lo} {st : Sto} {s s' : Str}
theorem tk_app {c K g : List Cell} (h : K.take c.length = c) : (K ++ g).take c.length = c := by
  have : c.length ≤ K.length := by
    have := congrArg List.length h
    rw [List.length_take] at this; omega
  rw [List.take_append_of_le_length this, h]
theorem vtupK {K : List Cell} {hs : List W} (X : XP) (P : W → Sto → Prop) : Ok (fTuple [.ref K.length] (C (K ++ .lst hs :: []))) X P = P (.tup hs) (C (K ++ .lst hs :: [])) := v_tup c_seq
def allO {α : Type} : List (Option α) → Option (List α)
  | [] => some []
  | none :: _ => none
  | some a :: r => (allO r).map (a :: ·)
theorem allO_cons {α : Type} (a : α) (r : List (Option α)) : allO (some a :: r) = (allO r).map (a :: ·) := rfl
theorem allO_some {α : Type} : ∀ {l : List (Option α)} {t : List α}, allO l = some t → l = t.map some
  | [], t, h => by cases h; rfl
  | none :: r, t, h => by cases h
  | some a :: r, t, h => by
    rw [allO_cons] at h
    cases e : allO r with
    | none => rw [e] at h; cases h
    | some t' => rw [e] at h; cases h; rw [allO_some e]; rfl
def datB (w : W) : Bool := match W.dat 8 w with | some .none => false | some _ => true | none => false
theorem eqv_none {d : PyData} (h : d ≠ .none) : PyData.eqv d .none = false := by
  cases d <;> first | exact absurd rfl h | rfl | simp [PyData.eqv]
def isNonB : W → Bool
  | .non => true
  | _ => false
theorem dats_of : ∀ {ws : List W}, (∀ w ∈ ws, w = .non ∨ datB w = true) → ∃ ds, W.dats 8 ws = some ds ∧ (ds.any fun z => PyData.eqv z .none) = ws.any isNonB
  | [], _ => ⟨[], rfl, rfl⟩
  | w :: ws, h => by
    obtain ⟨ds, h1, h2⟩ := dats_of (ws := ws) fun x hx => h x (List.mem_cons_of_mem _ hx)
    have cons : ∀ {d : PyData}, W.dat 8 w = some d → W.dats 8 (w :: ws) = some (d :: ds) := fun {d} e => by
      show (match W.dat 8 w, W.dats 8 ws with | some d, some ds => some (d :: ds) | _, _ => none) = _
      rw [e, h1]
    rcases h w List.mem_cons_self with rfl | hw
    · refine ⟨_, cons rfl, ?_⟩
      rw [List.any_cons, List.any_cons, h2]
      rfl
    · unfold datB at hw
      cases e : W.dat 8 w with
      | none => rw [e] at hw; cases hw
      | some d =>
        rw [e] at hw
        have dn : d ≠ .none := fun q => by subst q; cases hw
        refine ⟨_, cons e, ?_⟩
        have nn : isNonB w = false := by
          cases w <;> first | rfl | (cases e; exact absurd rfl dn)
        rw [List.any_cons, List.any_cons, h2, eqv_none dn, nn]
theorem in_non {ws : List W} (h : ∀ w ∈ ws, w = .non ∨ datB w = true) (st : Sto) : wIn .non (.tup ws) st = .ok (.bl (ws.any isNonB)) st := by
  obtain ⟨ds, h1, h2⟩ := dats_of h
  unfold wIn
  show (match some PyData.none, W.dats 8 ws with | some d, some es => Res.ok (W.bl (es.any fun z => PyData.eqv z d)) st | _, _ => .err) = _
  rw [h1]
  dsimp only
  rw [h2]
theorem split_run (b : Str) (hb : (b.length == 0) = false) (hl : s.length + 2 ≤ 1000000) : fSplit s [.str b] (C c) = .ok (.ref c.length) (C (c ++ .lst ((Txt.split s b).map .str) :: [])) := by
  unfold fSplit
  dsimp only
  rw [if_pos ⟨hb, hl⟩]; rfl
theorem part_run (b : Str) (hb : (b.length == 0) = false) (hl : s.length ≤ 1000000) (st : Sto) : fPartition s [.str b] st = .ok (.tup [.str (Txt.partition s b).1, .str (Txt.partition s b).2.1, .str (Txt.partition s b).2.2]) st := by
  unfold fPartition
  dsimp only
  rw [if_pos ⟨hb, hl⟩]
theorem get_refK {K : List Cell} {k : Nat} {ws : List W} (h : K[k]? = some (.lst ws)) : RB.getL (C K) k = some ws := by
  unfold RB.getL
  rw [show (C K).c = K from rfl, h]
theorem live_atK {K : List Cell} {k : Nat} {ws : List W} (h : K[k]? = some (.lst ws)) (g : List Cell) (j : Nat) : Src.at (C (K ++ g)) j (.live k) = some ws[j]? := by
  show (RB.getL (C (K ++ g)) k).map _ = _
  rw [get_refK (get_app h)]; rfl
def optL {α : Type} (f : List α → W) : Option (List α) → W
  | some l => f l
  | none => .non
theorem any_non {α : Type} (f : α → W) (hf : ∀ a, isNonB (f a) = false) (ls : List (Option α)) : (ls.map fun o => match o with | some a => f a | none => W.non).any isNonB = (allO ls).isNone := by
  induction ls with
  | nil => rfl
  | cons o r ih =>
    rw [List.map_cons, List.any_cons, ih]
    cases o with
    | none => rfl
    | some a =>
      show (isNonB (f a) || (allO r).isNone) = _
      rw [hf a, allO_cons]
      cases allO r <;> rfl
def numsV (s : Str) : Option (List Nat) := allO ((Txt.split s ",").map numV)
theorem numbers_ok (hl : s.length ≤ 900000) : F_numbers_told [.str s] (C c) = .ok (optL (fun l => .tup (nW l)) (numsV s)) (C c) := by
  refine run_eq ?_
  have sep : TL.tl (Str.ofString ",") ≠ [] := by decide
  have sk : (Str.ofString ",").cps.all (· < 256) = true := by decide +kernel
  obtain ⟨ps, hps⟩ : ∃ ps, ps = Txt.split s "," := ⟨_, rfl⟩
  obtain ⟨K, hK⟩ : ∃ K, K = c ++ .lst (ps.map .str) :: [] := ⟨_, rfl⟩
  have e1 : fSplit s [.str ","] (C c) = .ok (.ref c.length) (C K) := by rw [hK, hps]; exact split_run "," (by decide) (by omega)
  have hk : K[c.length]? = some (.lst (ps.map .str)) := by rw [hK]; exact c_get
  have gl := get_refK hk
  have tk : K.take c.length = c := by rw [hK]; exact List.take_left
  have push : (C K).push (.lst []) = C (K ++ .lst [] :: []) := rfl
  have pl : ps.length ≤ 900001 := by
    have := split_len (s := s) sep sk
    rw [hps]
    show (Txt.split s (Str.ofString ",")).length ≤ _
    omega
  have nv : numsV s = allO (ps.map numV) := by rw [hps]; rfl
  unfold F_numbers_told
  exists k_ms, kk e1, k_vSeq, gl, push
  refine cl_ix (c := K) (s := .live c.length) (ws := ps.map .str) (vs := ps.map fun p => optN (numV p)) (fun us j => live_atK hk _ j) (by rw [List.length_map, List.length_map]) (by rw [List.length_map]; omega) (fun i w v h1 h2 => ?_) ?_
  · rw [List.getElem?_map] at h1 h2
    cases ep : ps[i]? with
    | none => rw [ep] at h1; cases h1
    | some p =>
      rw [ep] at h1 h2
      cases h1; cases h2
      have hp := List.mem_of_getElem? ep
      rw [hps] at hp
      have := (split_parts sep sk hp).2
      refine ⟨_, fun _ => rfl, by
        show W.low _ (optN (numV p)) = true
        cases numV p <;> rfl, fun us => run_eq ?_⟩
      have nk := number_ok (s := p) (c := K ++ .lst us :: []) (by omega)
      exists wipeL, kk nk
  · have vt := vtupK (K := K) (hs := ps.map fun p => optN (numV p))
    have ins := fun st => in_non (ws := ps.map fun p => optN (numV p)) (fun w hw => by
      obtain ⟨p, _, rfl⟩ := List.mem_map.mp hw
      cases numV p with
      | none => exact .inl rfl
      | some n => exact .inr rfl) st
    have an : (ps.map fun p => optN (numV p)).any isNonB = (numsV s).isNone := by
      rw [nv, ← any_non (fun n : Nat => W.int (n : Nat)) (fun _ => rfl), List.map_map]
      congr 1
      exact List.map_congr_left fun p _ => by
        simp only [Function.comp]
        cases numV p <;> rfl
    cases en : numsV s with
    | none =>
      rw [en] at an
      have an : (ps.map fun p => optN (numV p)).any isNonB = true := an
      exists vt, kk (ins (C (K ++ .lst (ps.map fun p => optN (numV p)) :: []))), an
      rw [k_trim rfl, tk_app tk]
      exact ⟨rfl, rfl⟩
    | some ns =>
      rw [en] at an
      have an : (ps.map fun p => optN (numV p)).any isNonB = false := an
      have e : ps.map (fun p => optN (numV p)) = nW ns := by
        rw [en] at nv
        have := allO_some nv.symm
        unfold nW
        rw [show ps.map (fun p => optN (numV p)) = (ps.map numV).map optN by rw [List.map_map]; rfl, this, List.map_map]
        rfl
      exists vt, kk (ins (C (K ++ .lst (ps.map fun p => optN (numV p)) :: []))), an
      rw [e, k_trim (show W.pure (.tup (nW ns)) = true from nW_pure ns), tk_app tk]
      exact ⟨rfl, rfl⟩
end
section
variable {c g : List Cell} {X : XP} {P : W → Sto → Prop} {l : Lo} {st : Sto} {s s' : Str}
theorem sep_slash : TL.tl (Str.ofString "/") ≠ [] := by decide
theorem sep_colon : TL.tl (Str.ofString ":") ≠ [] := by decide
theorem sep_at : TL.tl (Str.ofString "@") ≠ [] := by decide
theorem isN_non (st : Sto) (X : XP) (P : W → Sto → Prop) : Ok (wIsN .non .non st) X P = P (.bl true) st := rfl
theorem isN_int (i : Int) (st : Sto) (X : XP) (P : W → Sto → Prop) : Ok (wIsN (.int i) .non st) X P = P (.bl false) st := rfl
theorem isN_tup (ws : List W) (st : Sto) (X : XP) (P : W → Sto → Prop) : Ok (wIsN (.tup ws) .non st) X P = P (.bl false) st := rfl
theorem tup3S (a b d : W) (t : Tgs) (l : Lo) (st : Sto) : tgTup 3 t (.tup [a, b, d]) l st = t [a, b, d] l st := rfl
def fracV (s : Str) : Option (Nat × Nat) := match numV (Txt.partition s "/").1, numV (Txt.partition s "/").2.2 with
  | some a, some b => some (a, b)
  | _, _ => none
def fracP : Option (Nat × Nat) → W
  | some (a, b) => .tup [.int (a : Nat), .int (b : Nat)]
  | none => .non
theorem fractold_ok (hl : s.length ≤ 900000) : F_fraction_told [.str s] (C c) = .ok (fracP (fracV s)) (C c) := by
  obtain ⟨_, _, l1, l2⟩ := part_parts (s := s) sep_slash
  have pr := part_run (s := s) "/" (by decide) (by omega) (C c)
  unfold fracV
  generalize hA : (Txt.partition s (Str.ofString "/")).1 = A at pr l1
  generalize hB : (Txt.partition s (Str.ofString "/")).2.2 = B at pr l2
  generalize (Txt.partition s (Str.ofString "/")).2.1 = M at pr
  have n1 := number_ok (s := A) (c := c) (by omega)
  have n2 := number_ok (s := B) (c := c) (by omega)
  refine run_eq ?_
  unfold F_fraction_told
  cases e1 : numV A with
  | none =>
    rw [e1] at n1
    have n1 : F_number_told [.str A] (C c) = .ok .non (C c) := n1
    exists k_ms, kk pr, tup3S, kk n1, kk n2, isN_non
    rw [c_trim0 rfl]; exact ⟨rfl, rfl⟩
  | some a =>
    rw [e1] at n1
    have n1 : F_number_told [.str A] (C c) = .ok (.int (a : Nat)) (C c) := n1
    cases e2 : numV B with
    | none =>
      rw [e2] at n2
      have n2 : F_number_told [.str B] (C c) = .ok .non (C c) := n2
      exists k_ms, kk pr, tup3S, kk n1, kk n2, isN_non, isN_int
      rw [c_trim0 rfl]; exact ⟨rfl, rfl⟩
    | some b =>
      rw [e2] at n2
      have n2 : F_number_told [.str B] (C c) = .ok (.int (b : Nat)) (C c) := n2
      exists k_ms, kk pr, tup3S, kk n1, kk n2, isN_int, (by decide : (2 : Nat) ≤ 1000)
      rw [c_trim0 rfl]; exact ⟨rfl, rfl⟩
def betV (s : Str) : Option B := match numsV (Txt.partition s ":").2.2 with
  | none => none
  | some l => if (Txt.partition s ":").1 = "row" then some (.row l) else match Txt.startswith (Txt.partition s ":").1 "top", numV (L2.cutS (Txt.partition s ":").1 (some 3) none) with
    | true, some k => some (.top k l)
    | _, _ => none
def betP : Option B → W
  | some b => b.toW
  | none => .non
theorem row_asc : asc "row" := by
  have : (("row" : Str).cps.toList.all fun z => decide (z < 128)) = true := by decide +kernel
  exact fun z hz => of_decide_eq_true (List.all_eq_true.mp this z hz)
theorem v_slT {lo hi : Option Int} (h : s.length ≤ 1000000) : Ok (wSlT (.str s) lo hi st) X P = P (.str (L2.cutS s lo hi)) st := by
  unfold wSlT; dsimp only; rw [if_pos h]; rfl
theorem k_slT3 {e : Ev} {i : Int} : Ok (eSlT e (poSome (eLit (.int i))) poNone l st) X P = Ok (e l st) X fun x st1 => Ok (wSlT x (some i) none st1) X P := by
  unfold eSlT
  rw [k_bind]; rfl
theorem v_starts (b : Str) : Ok (fStartswith s [.str b] st) X P = P (.bl (Txt.startswith s b)) st := rfl
theorem bet_ok (ha : asc s) (hl : s.length ≤ 900000) : F_bet_told [.str s] (C c) = .ok (betP (betV s)) (C c) := by
  obtain ⟨m1, _, l1, l2⟩ := part_parts (s := s) sep_colon
  have pr := part_run (s := s) ":" (by decide) (by omega) (C c)
  unfold betV
  have aA := asc_of ha m1
  generalize hA : (Txt.partition s (Str.ofString ":")).1 = A at pr l1 aA
  generalize hB : (Txt.partition s (Str.ofString ":")).2.2 = R at pr l2
  generalize (Txt.partition s (Str.ofString ":")).2.1 = M at pr
  have n1 := numbers_ok (s := R) (c := c) (by omega)
  have er := weq_str aA row_asc (C c)
  have n2 := number_ok (s := L2.cutS A (some 3) none) (c := c) (Nat.le_trans (L2.cutS_length A _ _) (by omega))
  have lA : A.length ≤ 1000000 := by omega
  refine run_eq ?_
  unfold F_bet_told
  cases e1 : numsV R with
  | none =>
    rw [e1] at n1
    have n1 : F_numbers_told [.str R] (C c) = .ok .non (C c) := n1
    exists k_ms, kk pr, tup3S, kk n1, isN_non
    rw [c_trim0 rfl]; exact ⟨rfl, rfl⟩
  | some ns =>
    rw [e1] at n1
    have n1 : F_numbers_told [.str R] (C c) = .ok (.tup (nW ns)) (C c) := n1
    by_cases h1 : A = "row"
    · rw [decide_eq_true h1] at er
      dsimp only
      rw [if_pos h1]
      exists k_ms, kk pr, tup3S, kk n1, isN_tup, kk er, (by decide : (2 : Nat) ≤ 1000)
      rw [c_trim0 (show W.pure (.tup [.str "row", .tup (nW ns)]) = true by
        show (true && (W.pures (nW ns) && true)) = true
        rw [nW_pure]; rfl)]
      exact ⟨rfl, rfl⟩
    · rw [decide_eq_false h1] at er
      dsimp only
      rw [if_neg h1]
      cases h2 : Txt.startswith A (Str.ofString "top") with
      | false =>
        have h2' : Txt.startswith A "top" = false := h2
        exists k_ms, kk pr, tup3S, kk n1, isN_tup, kk er, k_slT3, v_slT lA, kk n2, v_starts, h2', truth
        rw [c_trim0 rfl]; exact ⟨rfl, rfl⟩
      | true =>
        have h2' : Txt.startswith A "top" = true := h2
        cases e2 : numV (L2.cutS A (some 3) none) with
        | none =>
          rw [e2] at n2
          have n2 : F_number_told [.str (L2.cutS A (some 3) none)] (C c) = .ok .non (C c) := n2
          exists k_ms, kk pr, tup3S, kk n1, isN_tup, kk er, k_slT3, v_slT lA, kk n2, v_starts, h2', truth, isN_non
          rw [c_trim0 rfl]; exact ⟨rfl, rfl⟩
        | some k =>
          rw [e2] at n2
          have n2 : F_number_told [.str (L2.cutS A (some 3) none)] (C c) = .ok (.int (k : Nat)) (C c) := n2
          exists k_ms, kk pr, tup3S, kk n1, isN_tup, kk er, k_slT3, v_slT lA, kk n2, v_starts, h2', truth, isN_int, (by decide : (3 : Nat) ≤ 1000)
          rw [c_trim0 (show W.pure (.tup [.str "top", .int (k : Nat), .tup (nW ns)]) = true by
            show (true && (true && (W.pures (nW ns) && true))) = true
            rw [nW_pure]; rfl)]
          exact ⟨rfl, rfl⟩
structure OT where
  b : B
  f : Nat × Nat
  s : Bool
def OT.toW (o : OT) : W := .tup [o.b.toW, .tup [.int (o.f.1 : Nat), .int (o.f.2 : Nat)], sideW o.s]
def sgnV (r : Str) : Option Bool := match atI r.cps.toList (-1) with
  | some z => if z = 43 then some true else if z = 45 then some false else none
  | none => none
def offV (s : Str) : Option OT := match betV (Txt.partition s "@").1, fracV (L2.cutS (Txt.partition s "@").2.2 none (some (-1))), sgnV (Txt.partition s "@").2.2 with
  | some b, some f, some t => some ⟨b, f, t⟩
  | _, _, _ => none
def offP : Option OT → W
  | some o => o.toW
  | none => .non
theorem frac_empty : fracV Str.empty = none := by decide +kernel
theorem k_slTm {e : Ev} : Ok (eSlT e poNone (poSome (eU wNeg (eLit (.int 1)))) l st) X P = Ok (e l st) X fun x st1 => Ok (wSlT x none (some (-1)) st1) X P := by
  unfold eSlT
  rw [k_bind]; rfl
theorem last_get (h : s.length ≠ 0) : ∃ z, atI s.cps.toList (-1) = some z ∧ z ∈ s.cps.toList := by
  have hl : s.cps.toList.length ≠ 0 := by rw [Array.length_toList]; exact h
  have e : atI s.cps.toList (-1) = s.cps.toList[s.cps.toList.length - 1]? := by
    unfold atI ixN
    rw [if_neg (by decide), if_pos (by omega)]
    show s.cps.toList[(((-1 : Int) + (s.cps.toList.length : Nat))).toNat]? = _
    congr 1
    omega
  refine ⟨s.cps.toList[s.cps.toList.length - 1]'(by omega), ?_, List.getElem_mem _⟩
  rw [e]
  exact List.getElem?_eq_getElem _
theorem sgn_in {z : Nat} (hz : z < 128) (st : Sto) : wNotIn (.str ⟨#[z]⟩) (.tup [.str "+", .str "-"]) st = .ok (.bl (!(decide (z = 43) || decide (z = 45)))) st := by
  have d1 : datOf st (.str ⟨#[z]⟩) = some (.str ⟨#[z]⟩) := by
    show (if PyData.strOk ⟨#[z]⟩ = true then some (PyData.str ⟨#[z]⟩) else none) = _
    rw [if_pos (asc_ok (one_asc hz))]
  have d2 : W.dats 8 [.str "+", .str "-"] = some [.str "+", .str "-"] := by kernel_rfl
  unfold wNotIn
  rw [d1]
  show (match some (PyData.str ⟨#[z]⟩), W.dats 8 [.str "+", .str "-"] with | some d, some es => Res.ok (W.bl (!es.any fun q => PyData.eqv q d)) st | _, _ => .err) = _
  rw [d2]
  have ev : ∀ (k : Nat) (x : Str), x = ⟨#[k]⟩ → PyData.eqv (.str x) (.str ⟨#[z]⟩) = decide (z = k) := fun k x hx => by
    have : PyData.eqv (.str x) (.str ⟨#[z]⟩) = (x == ⟨#[z]⟩) := by first | rfl | simp [PyData.eqv]
    rw [this, Bool.eq_iff_iff, decide_eq_true_eq, hx]
    constructor
    · intro h
      have h := beq_iff_eq.mp h
      have q := congrArg (fun y : Str => y.cps.toList) h
      have q : [k] = [z] := q
      cases q; rfl
    · intro h; subst h; exact beq_self_eq_true _
  dsimp only
  rw [List.any_cons, List.any_cons, List.any_nil, ev 43 "+" rfl, ev 45 "-" rfl, Bool.or_false]
theorem plus_asc : asc "+" := fun z hz => by
  have : z = 43 := by simpa using (show z ∈ [43] from hz)
  omega
theorem one_eq {z k : Nat} : decide ((⟨#[z]⟩ : Str) = ⟨#[k]⟩) = decide (z = k) := by
  rw [Bool.eq_iff_iff, decide_eq_true_eq, decide_eq_true_eq]
  constructor
  · intro h
    have q := congrArg (fun y : Str => y.cps.toList) h
    have q : [z] = [k] := q
    cases q; rfl
  · intro h; rw [h]
theorem frac_len0 (h : fracV s ≠ none) : s.length ≠ 0 := fun z => by
  have : s = Str.empty := by
    apply TL.ext_tl
    have := TL.len_tl s
    rw [z] at this
    exact (List.length_eq_zero_iff.mp this.symm).trans rfl
  rw [this] at h
  exact h frac_empty
theorem cut_len0 {r : Str} {lo hi : Option Int} (h : (L2.cutS r lo hi).length ≠ 0) : r.length ≠ 0 := fun z => by
  have := L2.cutS_length r lo hi
  omega
theorem offer_ok (ha : asc s) (hl : s.length ≤ 900000) : F__offer_told [.str s] (C c) = .ok (offP (offV s)) (C c) := by
  obtain ⟨m1, m2, l1, l2⟩ := part_parts (s := s) sep_at
  have pr := part_run (s := s) "@" (by decide) (by omega) (C c)
  unfold offV
  have aA := asc_of ha m1
  have aB := asc_of ha m2
  generalize hA : (Txt.partition s (Str.ofString "@")).1 = A at pr l1 aA
  generalize hB : (Txt.partition s (Str.ofString "@")).2.2 = R at pr l2 aB
  generalize (Txt.partition s (Str.ofString "@")).2.1 = M at pr
  have n1 := bet_ok (s := A) (c := c) aA (by omega)
  have n2 := fractold_ok (s := L2.cutS R none (some (-1))) (c := c) (Nat.le_trans (L2.cutS_length R _ _) (by omega))
  have lR : R.length ≤ 1000000 := by omega
  have ng : ∀ (a : Int) (st : Sto) (X : XP) (P : W → Sto → Prop), Ok (wNeg (.int a) st) X P = P (.int (-a)) st := fun _ _ _ _ => rfl
  refine run_eq ?_
  unfold F__offer_told
  cases e1 : betV A with
  | none =>
    rw [e1] at n1
    have n1 : F_bet_told [.str A] (C c) = .ok .non (C c) := n1
    exists k_ms, kk pr, tup3S, kk n1, k_slTm, v_slT lR, kk n2, isN_non
    rw [c_trim0 rfl]; exact ⟨rfl, rfl⟩
  | some b =>
    rw [e1] at n1
    have n1 : F_bet_told [.str A] (C c) = .ok b.toW (C c) := n1
    have nb : ∀ (st : Sto) (X : XP) (P : W → Sto → Prop), Ok (wIsN b.toW .non st) X P = P (.bl false) st := fun _ _ _ => by cases b <;> rfl
    cases e2 : fracV (L2.cutS R none (some (-1))) with
    | none =>
      rw [e2] at n2
      have n2 : F_fraction_told [.str (L2.cutS R none (some (-1)))] (C c) = .ok .non (C c) := n2
      exists k_ms, kk pr, tup3S, kk n1, k_slTm, v_slT lR, kk n2, isN_non, nb
      rw [c_trim0 rfl]; exact ⟨rfl, rfl⟩
    | some f =>
      rw [e2] at n2
      have n2 : F_fraction_told [.str (L2.cutS R none (some (-1)))] (C c) = .ok (.tup [.int (f.1 : Nat), .int (f.2 : Nat)]) (C c) := n2
      obtain ⟨z, hz, zm⟩ := last_get (s := R) (cut_len0 (frac_len0 (by rw [e2]; exact fun q => by cases q)))
      have z128 := aB z zm
      have sg := sgn_in z128 (C c)
      have ep := weq_str (one_asc z128) plus_asc (C c)
      rw [show (("+" : Str)) = ⟨#[43]⟩ from rfl, one_eq] at ep
      have ep : wEq (.str ⟨#[z]⟩) (.str "+") (C c) = .ok (.bl (decide (z = 43))) (C c) := ep
      have es : sgnV R = (if z = 43 then some true else if z = 45 then some false else none) := by unfold sgnV; rw [hz]
      rw [es]
      have fin : ∀ t : Bool, W.pure (OT.toW ⟨b, f, t⟩) = true := fun t => by
        show (W.pure b.toW && (true && (W.pure (sideW t) && true))) = true
        have : W.pure b.toW = true := by
          cases b with
          | top k l => show (true && (true && (W.pures (nW l) && true))) = true; rw [nW_pure]; rfl
          | row l => show (true && (W.pures (nW l) && true)) = true; rw [nW_pure]; rfl
        rw [this]
        cases t <;> rfl
      by_cases h1 : z = 43
      · subst h1
        have s1 : (!(decide ((43 : Nat) = 43) || decide ((43 : Nat) = 45))) = false := by decide
        have s2 : decide ((43 : Nat) = 43) = true := by decide
        exists k_ms, kk pr, tup3S, kk n1, k_slTm, v_slT lR, kk n2, isN_tup, nb, ng, v_ixT hz lR, (by decide : (2 : Nat) ≤ 1000), kk sg, s1, kk ep, s2, (by decide : (3 : Nat) ≤ 1000)
        rw [c_trim0 (show W.pure (.tup [b.toW, .tup [.int (f.1 : Nat), .int (f.2 : Nat)], .str "for"]) = true from fin true)]
        exact ⟨rfl, rfl⟩
      · by_cases h2 : z = 45
        · subst h2
          have s1 : (!(decide ((45 : Nat) = 43) || decide ((45 : Nat) = 45))) = false := by decide
          have s2 : decide ((45 : Nat) = 43) = false := by decide
          exists k_ms, kk pr, tup3S, kk n1, k_slTm, v_slT lR, kk n2, isN_tup, nb, ng, v_ixT hz lR, (by decide : (2 : Nat) ≤ 1000), kk sg, s1, kk ep, s2, (by decide : (3 : Nat) ≤ 1000)
          rw [c_trim0 (show W.pure (.tup [b.toW, .tup [.int (f.1 : Nat), .int (f.2 : Nat)], .str "against"]) = true from fin false)]
          exact ⟨rfl, rfl⟩
        · have s1 : (!(decide (z = 43) || decide (z = 45))) = true := by rw [decide_eq_false h1, decide_eq_false h2]; rfl
          rw [if_neg h1, if_neg h2]
          exists k_ms, kk pr, tup3S, kk n1, k_slTm, v_slT lR, kk n2, isN_tup, nb, ng, v_ixT hz lR, (by decide : (2 : Nat) ≤ 1000), kk sg, s1
          rw [c_trim0 rfl]; exact ⟨rfl, rfl⟩
end
section
variable {c g : List Cell} {X : XP} {P : W → Sto → Prop} {l : Lo} {st : Sto} {s s' : Str}
theorem dats_nW (k : Nat) : ∀ l : List Nat, W.dats k (nW l) = some (l.map fun n => PyData.int (n : Nat))
  | [] => by cases k <;> rfl
  | n :: l => by
    have ih := dats_nW k l
    have e : W.dats k (nW (n :: l)) = (match W.dat k (.int (n : Nat)), W.dats k (nW l) with | some d, some ds => some (d :: ds) | _, _ => none) := by cases k <;> rfl
    rw [e, ih]
    cases k <;> rfl
theorem dat_bet (b : LW.B) : ∃ d, W.dat 7 b.toW = some d := by
  cases b with
  | top k l =>
    refine ⟨.tuple [.str "top", .int (k : Nat), .tuple (l.map fun n => .int (n : Nat))], ?_⟩
    have h1 : W.dat 6 (.tup (nW l)) = some (.tuple (l.map fun n => .int (n : Nat))) := by
      show (W.dats 5 (nW l)).map PyData.tuple = _
      rw [dats_nW]; rfl
    have h0 : W.dat 6 (.str "top") = some (.str "top") := by kernel_rfl
    show (match W.dat 6 (.str "top"), (match W.dat 6 (.int (k : Nat)), (match W.dat 6 (.tup (nW l)), W.dats 6 [] with | some d, some ds => some (d :: ds) | _, _ => none) with | some d, some ds => some (d :: ds) | _, _ => none) with | some d, some ds => some (d :: ds) | _, _ => none).map PyData.tuple = _
    rw [h0, h1]; rfl
  | row l =>
    refine ⟨.tuple [.str "row", .tuple (l.map fun n => .int (n : Nat))], ?_⟩
    have h1 : W.dat 6 (.tup (nW l)) = some (.tuple (l.map fun n => .int (n : Nat))) := by
      show (W.dats 5 (nW l)).map PyData.tuple = _
      rw [dats_nW]; rfl
    have h0 : W.dat 6 (.str "row") = some (.str "row") := by kernel_rfl
    show (match W.dat 6 (.str "row"), (match W.dat 6 (.tup (nW l)), W.dats 6 [] with | some d, some ds => some (d :: ds) | _, _ => none) with | some d, some ds => some (d :: ds) | _, _ => none).map PyData.tuple = _
    rw [h0, h1]; rfl
theorem dat_side (t : Bool) : W.dat 7 (sideW t) = some (.str (if t then "for" else "against")) := by
  cases t <;> kernel_rfl
theorem dat_off (o : OT) : datB o.toW = true := by
  obtain ⟨d, h1⟩ := dat_bet o.b
  have h2 := dat_side o.s
  unfold datB
  have e : W.dat 8 o.toW = (match W.dat 7 o.b.toW, (match W.dat 7 (.tup [.int (o.f.1 : Nat), .int (o.f.2 : Nat)]), (match W.dat 7 (sideW o.s), W.dats 7 [] with | some d, some ds => some (d :: ds) | _, _ => none) with | some d, some ds => some (d :: ds) | _, _ => none) with | some d, some ds => some (d :: ds) | _, _ => none).map PyData.tuple := rfl
  rw [e, h1, h2]
  rfl
theorem bet_pureW (b : LW.B) : W.pure b.toW = true := by
  cases b with
  | top k l => show (true && (true && (W.pures (nW l) && true))) = true; rw [nW_pure]; rfl
  | row l => show (true && (W.pures (nW l) && true)) = true; rw [nW_pure]; rfl
theorem ot_pure (o : OT) : W.pure o.toW = true := by
  show (W.pure o.b.toW && (true && (W.pure (sideW o.s) && true))) = true
  rw [bet_pureW]
  cases o.s <;> rfl
theorem offP_low (m : Nat) (o : Option OT) : W.low m (offP o) = true := by
  cases o with
  | none => rfl
  | some o => exact W.pure_low (ot_pure o)
theorem vtupK' {K : List Cell} {hs : List W} (X : XP) (P : W → Sto → Prop) : Ok (fTuple [.ref K.length] (C (K ++ .lst hs :: []))) X P = P (.tup hs) (C (K ++ .lst hs :: [])) := v_tup c_seq
def offsV (ws : List Str) : Option (List OT) := allO (ws.map offV)
def otsW (os : List OT) : W := .tup (os.map OT.toW)
theorem offers_told_ok {k : Nat} {ws : List Str} (hk : c[k]? = some (.lst (ws.map .str))) (ha : ∀ s ∈ ws, asc s ∧ s.length ≤ 900000) (hl : ws.length < 1000000) : F_offers_told [.ref k] (C c) = .ok (optL (fun os => otsW os) (offsV ws)) (C c) := by
  refine run_eq ?_
  have gl := get_refK hk
  have push : (C c).push (.lst []) = C (c ++ .lst [] :: []) := rfl
  unfold F_offers_told
  exists k_vSeq, gl, push
  refine cl_ix (c := c) (s := .live k) (ws := ws.map .str) (vs := ws.map fun p => offP (offV p)) (fun us j => live_atK hk _ j) (by rw [List.length_map, List.length_map]) (by rw [List.length_map]; omega) (fun i w v h1 h2 => ?_) ?_
  · rw [List.getElem?_map] at h1 h2
    cases ep : ws[i]? with
    | none => rw [ep] at h1; cases h1
    | some p =>
      rw [ep] at h1 h2
      cases h1; cases h2
      obtain ⟨a1, a2⟩ := ha p (List.mem_of_getElem? ep)
      refine ⟨_, fun _ => rfl, offP_low _ _, fun us => run_eq ?_⟩
      have nk := offer_ok (s := p) (c := c ++ .lst us :: []) a1 a2
      exists wipeL, kk nk
  · have vt := vtupK' (K := c) (hs := ws.map fun p => offP (offV p))
    have ins := fun st => in_non (ws := ws.map fun p => offP (offV p)) (fun w hw => by
      obtain ⟨p, _, rfl⟩ := List.mem_map.mp hw
      cases offV p with
      | none => exact .inl rfl
      | some o => exact .inr (dat_off o)) st
    have an : (ws.map fun p => offP (offV p)).any isNonB = (offsV ws).isNone := by
      unfold offsV
      rw [← any_non (fun o : OT => o.toW) (fun _ => rfl), List.map_map]
      congr 1
      exact List.map_congr_left fun p _ => by
        simp only [Function.comp]
        cases offV p <;> rfl
    cases en : offsV ws with
    | none =>
      rw [en] at an
      have an : (ws.map fun p => offP (offV p)).any isNonB = true := an
      exists vt, kk (ins (C (c ++ .lst (ws.map fun p => offP (offV p)) :: []))), an
      rw [k_trim rfl, List.take_left]
      exact ⟨rfl, rfl⟩
    | some os =>
      rw [en] at an
      have an : (ws.map fun p => offP (offV p)).any isNonB = false := an
      have e : ws.map (fun p => offP (offV p)) = os.map OT.toW := by
        have := allO_some en
        rw [show ws.map (fun p => offP (offV p)) = (ws.map offV).map offP by rw [List.map_map]; rfl, this, List.map_map]
        rfl
      exists vt, kk (ins (C (c ++ .lst (ws.map fun p => offP (offV p)) :: []))), an
      rw [e, k_trim (show W.pure (.tup (os.map OT.toW)) = true from pures_all fun w hw => by
        obtain ⟨o, _, rfl⟩ := List.mem_map.mp hw
        exact ot_pure o), List.take_left]
      exact ⟨rfl, rfl⟩
theorem lvl_in (h : asc s) (st : Sto) : wNotIn (.str s) (.tup [.str "level", .str "unlike"]) st = .ok (.bl (!(decide (s = "level") || decide (s = "unlike")))) st := by
  have d1 : datOf st (.str s) = some (.str s) := by
    show (if PyData.strOk s = true then some (PyData.str s) else none) = _
    rw [if_pos (asc_ok h)]
  have d2 : W.dats 8 [.str "level", .str "unlike"] = some [.str "level", .str "unlike"] := by kernel_rfl
  unfold wNotIn
  rw [d1]
  show (match some (PyData.str s), W.dats 8 [.str "level", .str "unlike"] with | some d, some es => Res.ok (W.bl (!es.any fun q => PyData.eqv q d)) st | _, _ => .err) = _
  rw [d2]
  have ev : ∀ (x : Str), PyData.eqv (.str x) (.str s) = decide (s = x) := fun x => by
    have : PyData.eqv (.str x) (.str s) = (x == s) := by first | rfl | simp [PyData.eqv]
    rw [this, Bool.eq_iff_iff, decide_eq_true_eq, beq_iff_eq]
    exact eq_comm
  dsimp only
  rw [List.any_cons, List.any_cons, List.any_nil, ev, ev, Bool.or_false]
theorem asc_lit (b : String) (h : ((Str.ofString b).cps.toList.all fun z => decide (z < 128)) = true) : asc (Str.ofString b) := fun z hz => of_decide_eq_true (List.all_eq_true.mp h z hz)
theorem level_asc : asc "level" := asc_lit _ (by decide +kernel)
theorem absent_asc : asc "absent" := asc_lit _ (by decide +kernel)
theorem cuts_asc : asc "cuts" := asc_lit _ (by decide +kernel)
theorem dash_asc : asc "-" := asc_lit _ (by decide +kernel)
theorem race_asc : asc "race" := asc_lit _ (by decide +kernel)
def raceV6 (a b d e f h : Str) : Option (Nat × Bool × List Nat × List Nat) :=
  if (b = "level" ∨ b = "unlike") ∧ d = "absent" ∧ f = "cuts" then (match numV a, (if e = "-" then some [] else numsV e), numsV h with
    | some n, some as, some cs => some (n, decide (b = "level"), as, cs)
    | _, _, _ => none) else none
def raceP : Option (Nat × Bool × List Nat × List Nat) → W
  | some (n, t, as, cs) => .tup [.int (n : Nat), .bl t, .tup (nW as), .tup (nW cs)]
  | none => .non
theorem race_told_ok {k : Nat} {a b d e f h : Str} (hk : c[k]? = some (.lst ([a, b, d, e, f, h].map .str))) (ha : ∀ s ∈ [a, b, d, e, f, h], asc s ∧ s.length ≤ 900000) : F_race_told [.ref k] (C c) = .ok (raceP (raceV6 a b d e f h)) (C c) := by
  have gs : seqOf (C c) (.ref k) = some [.str a, .str b, .str d, .str e, .str f, .str h] := get_refK hk
  have ln : ∀ (X : XP) (P : W → Sto → Prop), Ok (fLen [.ref k] (C c)) X P = P (.int 6) (C c) := fun X P => v_lenL (by intro z h; cases h) gs
  have ix : ∀ (i : Nat) (w : W), [W.str a, .str b, .str d, .str e, .str f, .str h][i]? = some w → ∀ (X : XP) (P : W → Sto → Prop), Ok (wIx (.ref k) (.int (i : Nat)) (C c)) X P = P w (C c) := fun i w hi X P => by
    refine v_ix gs ?_
    have : i < 6 := (List.getElem?_eq_some_iff.mp hi).1
    rw [atI_in (by omega) (by show ((i : Nat) : Int) < 6; omega), Int.toNat_natCast]; exact hi
  have i0 : ∀ (X : XP) (P : W → Sto → Prop), Ok (wIx (.ref k) (.int 0) (C c)) X P = P (.str a) (C c) := ix 0 _ rfl
  have i1 : ∀ (X : XP) (P : W → Sto → Prop), Ok (wIx (.ref k) (.int 1) (C c)) X P = P (.str b) (C c) := ix 1 _ rfl
  have i2 : ∀ (X : XP) (P : W → Sto → Prop), Ok (wIx (.ref k) (.int 2) (C c)) X P = P (.str d) (C c) := ix 2 _ rfl
  have i3 : ∀ (X : XP) (P : W → Sto → Prop), Ok (wIx (.ref k) (.int 3) (C c)) X P = P (.str e) (C c) := ix 3 _ rfl
  have i4 : ∀ (X : XP) (P : W → Sto → Prop), Ok (wIx (.ref k) (.int 4) (C c)) X P = P (.str f) (C c) := ix 4 _ rfl
  have i5 : ∀ (X : XP) (P : W → Sto → Prop), Ok (wIx (.ref k) (.int 5) (C c)) X P = P (.str h) (C c) := ix 5 _ rfl
  have aa := ha a (by simp)
  have ab := ha b (by simp)
  have ad := ha d (by simp)
  have ae := ha e (by simp)
  have af := ha f (by simp)
  have ah := ha h (by simp)
  have l1 := lvl_in ab.1 (C c)
  have l2 := wne_str ad.1 absent_asc (C c)
  have l3 := wne_str af.1 cuts_asc (C c)
  have l4 := weq_str ae.1 dash_asc (C c)
  have l5 := weq_str ab.1 level_asc (C c)
  have n1 := number_ok (s := a) (c := c) (by omega)
  have n2 := numbers_ok (s := e) (c := c) ae.2
  have n3 := numbers_ok (s := h) (c := c) ah.2
  have c1 : (∃ n, numV a = some n ∧ F_number_told [.str a] (C c) = .ok (.int (n : Nat)) (C c)) ∨ (numV a = none ∧ F_number_told [.str a] (C c) = .ok .non (C c)) := by
    cases q : numV a with
    | none => rw [q] at n1; exact .inr ⟨rfl, n1⟩
    | some n => rw [q] at n1; exact .inl ⟨n, rfl, n1⟩
  have c2 : (∃ n, numsV e = some n ∧ F_numbers_told [.str e] (C c) = .ok (.tup (nW n)) (C c)) ∨ (numsV e = none ∧ F_numbers_told [.str e] (C c) = .ok .non (C c)) := by
    cases q : numsV e with
    | none => rw [q] at n2; exact .inr ⟨rfl, n2⟩
    | some n => rw [q] at n2; exact .inl ⟨n, rfl, n2⟩
  have c3 : (∃ n, numsV h = some n ∧ F_numbers_told [.str h] (C c) = .ok (.tup (nW n)) (C c)) ∨ (numsV h = none ∧ F_numbers_told [.str h] (C c) = .ok .non (C c)) := by
    cases q : numsV h with
    | none => rw [q] at n3; exact .inr ⟨rfl, n3⟩
    | some n => rw [q] at n3; exact .inl ⟨n, rfl, n3⟩
  have fin : ∀ (n : Nat) (t : Bool) (x y : List Nat), W.pure (.tup [.int (n : Nat), .bl t, .tup (nW x), .tup (nW y)]) = true := fun n t x y => by
    show (true && (true && (W.pures (nW x) && (W.pures (nW y) && true)))) = true
    rw [nW_pure, nW_pure]; rfl
  refine run_eq ?_
  unfold F_race_told raceV6
  by_cases h1 : b = "level" ∨ b = "unlike"
  · have l1 : wNotIn (.str b) (.tup [.str "level", .str "unlike"]) (C c) = .ok (.bl false) (C c) := by
      rw [l1]
      rcases h1 with q | q
      · rw [decide_eq_true q]; rfl
      · rw [decide_eq_true q, Bool.or_true]; rfl
    by_cases h2 : d = "absent"
    · rw [decide_eq_true h2] at l2
      have l2 : wNe (.str d) (.str "absent") (C c) = .ok (.bl false) (C c) := l2
      by_cases h3 : f = "cuts"
      · rw [decide_eq_true h3] at l3
        have l3 : wNe (.str f) (.str "cuts") (C c) = .ok (.bl false) (C c) := l3
        rw [if_pos ⟨h1, h2, h3⟩]
        by_cases h4 : e = "-"
        · rw [decide_eq_true h4] at l4
          rw [if_pos h4]
          rcases c1 with ⟨n, q1, m1⟩ | ⟨q1, m1⟩
          · rw [q1]
            rcases c3 with ⟨y, q3, m3⟩ | ⟨q3, m3⟩
            · rw [q3]
              exists ln, (by decide : (2 : Nat) ≤ 1000), i1, kk l1, i2, kk l2, i4, kk l3, i0, kk m1, i3, kk l4, (by decide : (0 : Nat) ≤ 1000), i5, kk m3, isN_non, isN_int, isN_tup, kk l5, (by decide : (4 : Nat) ≤ 1000)
              rw [c_trim0 (w := .tup [.int (n : Nat), .bl (decide (b = "level")), .tup [], .tup (nW y)]) (fin n _ [] y)]
              exact ⟨rfl, rfl⟩
            · rw [q3]
              exists ln, (by decide : (2 : Nat) ≤ 1000), i1, kk l1, i2, kk l2, i4, kk l3, i0, kk m1, i3, kk l4, (by decide : (0 : Nat) ≤ 1000), i5, kk m3, isN_non, isN_int, isN_tup
              rw [c_trim0 rfl]; exact ⟨rfl, rfl⟩
          · rw [q1]
            rcases c3 with ⟨y, q3, m3⟩ | ⟨q3, m3⟩
            · rw [q3]
              exists ln, (by decide : (2 : Nat) ≤ 1000), i1, kk l1, i2, kk l2, i4, kk l3, i0, kk m1, i3, kk l4, (by decide : (0 : Nat) ≤ 1000), i5, kk m3, isN_non, isN_int, isN_tup
              rw [c_trim0 rfl]; exact ⟨rfl, rfl⟩
            · rw [q3]
              exists ln, (by decide : (2 : Nat) ≤ 1000), i1, kk l1, i2, kk l2, i4, kk l3, i0, kk m1, i3, kk l4, (by decide : (0 : Nat) ≤ 1000), i5, kk m3, isN_non, isN_int, isN_tup
              rw [c_trim0 rfl]; exact ⟨rfl, rfl⟩
        · rw [decide_eq_false h4] at l4
          rw [if_neg h4]
          rcases c1 with ⟨n, q1, m1⟩ | ⟨q1, m1⟩
          · rw [q1]
            rcases c2 with ⟨x, q2, m2⟩ | ⟨q2, m2⟩
            · rw [q2]
              rcases c3 with ⟨y, q3, m3⟩ | ⟨q3, m3⟩
              · rw [q3]
                exists ln, (by decide : (2 : Nat) ≤ 1000), i1, kk l1, i2, kk l2, i4, kk l3, i0, kk m1, i3, kk l4, (by decide : (0 : Nat) ≤ 1000), kk m2, i5, kk m3, isN_non, isN_int, isN_tup, kk l5, (by decide : (4 : Nat) ≤ 1000)
                rw [c_trim0 (fin n _ x y)]
                exact ⟨rfl, rfl⟩
              · rw [q3]
                exists ln, (by decide : (2 : Nat) ≤ 1000), i1, kk l1, i2, kk l2, i4, kk l3, i0, kk m1, i3, kk l4, (by decide : (0 : Nat) ≤ 1000), kk m2, i5, kk m3, isN_non, isN_int, isN_tup
                rw [c_trim0 rfl]; exact ⟨rfl, rfl⟩
            · rw [q2]
              rcases c3 with ⟨y, q3, m3⟩ | ⟨q3, m3⟩
              · rw [q3]
                exists ln, (by decide : (2 : Nat) ≤ 1000), i1, kk l1, i2, kk l2, i4, kk l3, i0, kk m1, i3, kk l4, (by decide : (0 : Nat) ≤ 1000), kk m2, i5, kk m3, isN_non, isN_int, isN_tup
                rw [c_trim0 rfl]; exact ⟨rfl, rfl⟩
              · rw [q3]
                exists ln, (by decide : (2 : Nat) ≤ 1000), i1, kk l1, i2, kk l2, i4, kk l3, i0, kk m1, i3, kk l4, (by decide : (0 : Nat) ≤ 1000), kk m2, i5, kk m3, isN_non, isN_int, isN_tup
                rw [c_trim0 rfl]; exact ⟨rfl, rfl⟩
          · rw [q1]
            rcases c2 with ⟨x, q2, m2⟩ | ⟨q2, m2⟩
            · rw [q2]
              rcases c3 with ⟨y, q3, m3⟩ | ⟨q3, m3⟩
              · rw [q3]
                exists ln, (by decide : (2 : Nat) ≤ 1000), i1, kk l1, i2, kk l2, i4, kk l3, i0, kk m1, i3, kk l4, (by decide : (0 : Nat) ≤ 1000), kk m2, i5, kk m3, isN_non, isN_int, isN_tup
                rw [c_trim0 rfl]; exact ⟨rfl, rfl⟩
              · rw [q3]
                exists ln, (by decide : (2 : Nat) ≤ 1000), i1, kk l1, i2, kk l2, i4, kk l3, i0, kk m1, i3, kk l4, (by decide : (0 : Nat) ≤ 1000), kk m2, i5, kk m3, isN_non, isN_int, isN_tup
                rw [c_trim0 rfl]; exact ⟨rfl, rfl⟩
            · rw [q2]
              rcases c3 with ⟨y, q3, m3⟩ | ⟨q3, m3⟩
              · rw [q3]
                exists ln, (by decide : (2 : Nat) ≤ 1000), i1, kk l1, i2, kk l2, i4, kk l3, i0, kk m1, i3, kk l4, (by decide : (0 : Nat) ≤ 1000), kk m2, i5, kk m3, isN_non, isN_int, isN_tup
                rw [c_trim0 rfl]; exact ⟨rfl, rfl⟩
              · rw [q3]
                exists ln, (by decide : (2 : Nat) ≤ 1000), i1, kk l1, i2, kk l2, i4, kk l3, i0, kk m1, i3, kk l4, (by decide : (0 : Nat) ≤ 1000), kk m2, i5, kk m3, isN_non, isN_int, isN_tup
                rw [c_trim0 rfl]; exact ⟨rfl, rfl⟩
      · rw [decide_eq_false h3] at l3
        have l3 : wNe (.str f) (.str "cuts") (C c) = .ok (.bl true) (C c) := l3
        rw [if_neg fun q => h3 q.2.2]
        exists ln, (by decide : (2 : Nat) ≤ 1000), i1, kk l1, i2, kk l2, i4, kk l3
        rw [c_trim0 rfl]; exact ⟨rfl, rfl⟩
    · rw [decide_eq_false h2] at l2
      have l2 : wNe (.str d) (.str "absent") (C c) = .ok (.bl true) (C c) := l2
      rw [if_neg fun q => h2 q.2.1]
      exists ln, (by decide : (2 : Nat) ≤ 1000), i1, kk l1, i2, kk l2
      rw [c_trim0 rfl]; exact ⟨rfl, rfl⟩
  · have l1 : wNotIn (.str b) (.tup [.str "level", .str "unlike"]) (C c) = .ok (.bl true) (C c) := by
      rw [l1, decide_eq_false (fun q => h1 (.inl q)), decide_eq_false (fun q => h1 (.inr q))]; rfl
    rw [if_neg fun q => h1 q.1]
    exists ln, (by decide : (2 : Nat) ≤ 1000), i1, kk l1
    rw [c_trim0 rfl]; exact ⟨rfl, rfl⟩
end
section
variable {c g : List Cell} {X : XP} {P : W → Sto → Prop} {l : Lo} {st : Sto} {s s' : Str} {as : List Off} {q m : Nat}
def iN (l : List Nat) : List Int := l.map fun k : Nat => (k : Int)
theorem nW_i (l : List Nat) : nW l = (iN l).map .int := by unfold nW iN; rw [List.map_map]; rfl
theorem tup4S (a b d e : W) (t : Tgs) (l : Lo) (st : Sto) : tgTup 4 t (.tup [a, b, d, e]) l st = t [a, b, d, e] l st := rfl
theorem k_makeD {m : Nat} {F : List W → Sto → Res W} {dws : List W} {a : Evs} {l : Lo} {st : Sto} {P : W → Sto → Prop} : Ok (eMake m F dws a l st) X P = Ok (a l st) X fun ws st1 => Ok (F (.ref st1.c.length :: (ws ++ dws)) (st1.push (.ins m []))) X fun v st2 => match v with | .non => P (.ref st1.c.length) st2 | _ => False := by
  unfold eMake; simp only [k_bind]; congr 1; funext w st1; congr 1; funext v st2; cases v <;> rfl
theorem sp_sep : TL.tl (Str.ofString " ") ≠ [] := by decide
theorem sp_k : (Str.ofString " ").cps.all (· < 256) = true := by decide +kernel
theorem no_asc : asc "" := asc_lit _ (by decide +kernel)
theorem tnof_str (s : Str) (st : Sto) : tnOf st (.str s) = some .str := rfl
end
section
variable {c g : List Cell} {X : XP} {P : W → Sto → Prop} {l : Lo} {st : Sto} {s s' : Str} {as : List Off} {q m : Nat}
section
variable {p p' : Nat → Prop}
theorem tl_joinT (y : Str) (ps : List Str) : TL.tl (Txt.join y ps) = TL.joinL (TL.tl y) (ps.map TL.tl) := by rw [TL.join_eq, TL.tl_join]
end
theorem cut_sgn (x : Str) (z : Nat) : L2.cutS (x ++ ⟨#[z]⟩) none (some (-1)) = x := by
  apply TL.ext_tl
  have el : (x ++ (⟨#[z]⟩ : Str)).length = x.length + 1 := by rw [TL.len_tl, TL.tl_append, List.length_append, ← TL.len_tl]; rfl
  have e1 : HT.sIx (x ++ (⟨#[z]⟩ : Str)).length 0 none = 0 := rfl
  have e2 : HT.sIx (x ++ (⟨#[z]⟩ : Str)).length (x ++ (⟨#[z]⟩ : Str)).length (some (-1)) = x.length := by
    show (if (-1 : Int) < 0 then (-1 + ((x ++ (⟨#[z]⟩ : Str)).length : Int)).toNat else min (-1 : Int).toNat (x ++ (⟨#[z]⟩ : Str)).length) = _
    rw [if_pos (by decide), el]; omega
  show (((x ++ (⟨#[z]⟩ : Str)).cps.toList.drop (HT.sIx (x ++ (⟨#[z]⟩ : Str)).length 0 none)).take (HT.sIx (x ++ (⟨#[z]⟩ : Str)).length (x ++ (⟨#[z]⟩ : Str)).length (some (-1)) - HT.sIx (x ++ (⟨#[z]⟩ : Str)).length 0 none)) = _
  rw [e1, e2, List.drop_zero, Nat.sub_zero]
  have : (x ++ (⟨#[z]⟩ : Str)).cps.toList = TL.tl x ++ [z] := TL.tl_append x ⟨#[z]⟩
  rw [this, List.take_append_of_le_length (by rw [TL.len_tl]; exact Nat.le_refl _)]
  exact List.take_of_length_le (by rw [TL.len_tl]; exact Nat.le_refl _)
end
section
variable {c g : List Cell} {X : XP} {P : W → Sto → Prop} {l : Lo} {st : Sto} {s s' : Str} {as : List Off} {q m n : Nat} {x y z w : W} {t : Bool} {f : Nat → Bool} {cu : List Int}
theorem join_run {ys : List Str} (h : seqOf st x = some (ys.map .str)) (hb : (ys.map (·.length)).sum + ys.length * s.length ≤ 16777216) : fJoin s [x] st = .ok (.str (Txt.join s ys)) st := by
  have e : strsOf (ys.map .str) = some ys := by
    clear h hb
    induction ys with
    | nil => rfl
    | cons y r ih => show (strsOf (r.map .str)).map (y :: ·) = _; rw [ih]; rfl
  unfold fJoin
  dsimp only
  rw [h]
  show (match strsOf (ys.map W.str) with | some (zs : List Str) => if (zs.map (fun z : Str => z.length)).sum + zs.length * s.length ≤ 16777216 then Res.ok (W.str (Txt.join s zs)) st else Res.err | none => Res.err) = _
  rw [e]
  dsimp only
  rw [if_pos hb]
end
section
variable {c g : List Cell} {X : XP} {P : W → Sto → Prop} {l : Lo} {st : Sto} {s s' w0 : Str} {ws : List Str} {as : List Off} {q m n k : Nat} {i : Int} {t : Bool} {ab cs : List Nat} {w v : W} {os : List OT} {D : Po4}
theorem x_cut2 : (C (c ++ g)).cut c.length = C c := by
  unfold Sto.cut
  show C (List.take c.length (c ++ g)) = C c
  rw [List.take_left]
def raceVs (ws : List Str) : Option (Nat × Bool × List Nat × List Nat) := match ws with
  | [a, b, d, e, f, h] => raceV6 a b d e f h
  | _ => none
theorem race_told_len (hk : c[k]? = some (.lst (ws.map .str))) (h6 : ws.length ≠ 6) : F_race_told [.ref k] (C c) = .ok .non (C c) := by
  have gs : seqOf (C c) (.ref k) = some (ws.map .str) := get_refK hk
  have ln : ∀ (X : XP) (P : W → Sto → Prop), Ok (fLen [.ref k] (C c)) X P = P (.int (ws.length : Nat)) (C c) := fun X P => by
    have := v_lenL (x := .ref k) (X := X) (P := P) (by intro z h; cases h) gs
    rw [List.length_map] at this
    exact this
  have e : (((ws.length : Nat) : Int) = 6) = False := eq_false (by omega)
  refine run_eq ?_
  unfold F_race_told
  exists ln, e
  rw [c_trim0 rfl]
  exact ⟨rfl, rfl⟩
theorem race_told_any (hk : c[k]? = some (.lst (ws.map .str))) (ha : ∀ s ∈ ws, asc s ∧ s.length ≤ 900000) : F_race_told [.ref k] (C c) = .ok (raceP (raceVs ws)) (C c) := by
  by_cases h6 : ws.length = 6
  · match ws, h6 with
    | [a, b, d, e, f, h], _ => exact race_told_ok hk ha
  · have e : raceVs ws = none := by
      unfold raceVs
      split
      · exact absurd rfl h6
      · rfl
    rw [e]
    exact race_told_len hk h6
theorem cut_tail {α : Type} (x : α) (r : List α) : cutW (x :: r) (some 1) none = r := by
  unfold cutW
  rw [show HT.sIx (x :: r).length 0 (some 1) = 1 by rw [show (1 : Int) = ((1 : Nat) : Int) from rfl, HT.sIx_nat, List.length_cons]; omega, HT.sIx_none, List.drop_succ_cons, List.drop_zero, List.length_cons, Nat.add_sub_cancel, List.take_length]
end
section
variable {c g : List Cell} {X : XP} {P : W → Sto → Prop} {l : Lo} {st : Sto} {as : List Off} {q m n k : Nat} {i : Int} {t : Bool} {ab cs : List Nat} {w v : W} {os : List OT} {D : Po4} {f : Nat → Bool} {cu : List Int} {ws : List W}
def fitT (s : Str) : Bool := decide (s.length ≤ 900000) && s.cps.toList.all fun z => decide (z < 128)
theorem fitT_ok {s : Str} (h : fitT s = true) : s.length ≤ 900000 ∧ asc s := by
  unfold fitT at h
  rw [Bool.and_eq_true, decide_eq_true_eq, List.all_eq_true] at h
  exact ⟨h.1, fun z hz => of_decide_eq_true (h.2 z hz)⟩
theorem rc2 : RcOk 2 [] [] := ⟨by decide, by decide, (fun k hk => by cases hk), by decide, rfl, .inl rfl⟩
end
section
variable {c g : List Cell} {X : XP} {P : W → Sto → Prop} {l : Lo} {st : Sto} {s s' : Str}
theorem digits_lt : ∀ (cs : List Nat) (acc : Nat), (∀ z ∈ cs, z ≤ 57) → cs.foldl (fun a d => a * 10 + (d - 48)) acc < (acc + 1) * 10 ^ cs.length
  | [], acc, _ => by simp
  | z :: r, acc, h => by
    have hz := h z (by simp)
    have ih := digits_lt r (acc * 10 + (z - 48)) fun y hy => h y (by simp [hy])
    rw [List.foldl_cons, List.length_cons, Nat.pow_succ]
    refine Nat.lt_of_lt_of_le ih ?_
    rw [Nat.mul_comm (10 ^ r.length) 10, ← Nat.mul_assoc]
    exact Nat.mul_le_mul_right _ (by omega)
theorem numV_lt {n : Nat} (h : numV s = some n) : n < 10000 := by
  unfold numV at h
  split at h
  · rename_i q
    obtain ⟨q1, q2, q3, _⟩ := q
    cases h
    have b : ∀ z ∈ s.cps.toList, z ≤ 57 := fun z hz => (digit_asc z (asc_iff.mp q1 z hz) ((isdigit_get q2).2 z hz)).2
    have := digits_lt s.cps.toList 0 b
    have ln : s.cps.toList.length ≤ 4 := by rw [Array.length_toList]; exact q3
    refine Nat.lt_of_lt_of_le (show NumText.digitsVal s.cps.toList < _ from this) ?_
    rw [Nat.zero_add, Nat.one_mul]
    exact Nat.pow_le_pow_right (by decide) ln
  · cases h
theorem fracV_lt {a b : Nat} (h : fracV s = some (a, b)) : a < 10000 ∧ b < 10000 := by
  unfold fracV at h
  split at h
  · rename_i x y h1 h2
    cases h
    exact ⟨numV_lt h1, numV_lt h2⟩
  · cases h
def nmW (s : Str) : W := match fracV s with
  | some (a, b) => if b = 0 then .non else frW (mkRat a b)
  | none => .non
theorem nm_pure (s : Str) : W.pure (nmW s) = true := by
  unfold nmW
  split
  · split <;> rfl
  · rfl
theorem num_ok (hl : s.length ≤ 900000) : F__number_told [.str s] (C c) = .ok (nmW s) (C c) := by
  have n := fractold_ok (s := s) (c := c) hl
  refine run_eq ?_
  unfold F__number_told nmW
  cases e : fracV s with
  | none =>
    rw [e] at n
    have n : F_fraction_told [.str s] (C c) = .ok .non (C c) := n
    exists kk n, isN_non
    rw [c_trim0 rfl]; exact ⟨rfl, rfl⟩
  | some p =>
    obtain ⟨a, b⟩ := p
    obtain ⟨la, lb⟩ := fracV_lt e
    rw [e] at n
    have n : F_fraction_told [.str s] (C c) = .ok (.tup [.int (a : Nat), .int (b : Nat)]) (C c) := n
    have i0 : ∀ (X : XP) (P : W → Sto → Prop), Ok (wIx (.tup [.int (a : Nat), .int (b : Nat)]) (.int 0) (C c)) X P = P (.int (a : Nat)) (C c) := fun X P => v_ix (ws := [.int (a : Nat), .int (b : Nat)]) rfl rfl
    have i1 : ∀ (X : XP) (P : W → Sto → Prop), Ok (wIx (.tup [.int (a : Nat), .int (b : Nat)]) (.int 1) (C c)) X P = P (.int (b : Nat)) (C c) := fun X P => v_ix (ws := [.int (a : Nat), .int (b : Nat)]) rfl rfl
    dsimp only
    by_cases hb : b = 0
    · subst hb
      rw [if_pos rfl]
      exists kk n, isN_tup, i1, (by decide : decide (((0 : Nat) : Int) = 0) = true)
      rw [c_trim0 rfl]; exact ⟨rfl, rfl⟩
    · rw [if_neg hb]
      have f := fraction_ok (a := (a : Nat)) (b := b) (c := c) (by omega) (Nat.lt_of_lt_of_le lb (Nat.le_trans (by decide : 10000 ≤ 2 ^ 14) (Nat.pow_le_pow_right (by decide) (by decide))))
      have hb' : decide (((b : Nat) : Int) = 0) = false := decide_eq_false (by omega)
      have hb'' : ¬ (((b : Nat) : Int) = 0) := by omega
      exists kk n, isN_tup, i1, hb', hb'', i0, kk f
      rw [c_trim0 (w := frW (mkRat a b)) rfl]; exact ⟨rfl, rfl⟩
def badP (p : Str) : Bool := isNonB (nmW p) && !decide (p = "-")
def rowV (s : Str) : W := if (Txt.split s ",").any badP = true then .non else .tup ((Txt.split s ",").map nmW)
theorem app_end {us : List W} {w : W} {G : List Cell} (hw : W.pure w = true) (hl : us.length < 1000000) (X : XP) (P : W → Sto → Prop) : Ok (fAppend (.ref c.length) [w] (C (c ++ .lst us :: G))) X P = P .non (C (c ++ .lst (us ++ [w]) :: G)) := by
  unfold fAppend
  have e : (c ++ .lst us :: G)[c.length]? = some (.lst us) := c_get
  have s2 : (c ++ .lst us :: G).set c.length (.lst (us ++ [w])) = c ++ .lst (us ++ [w]) :: G := by
    rw [List.set_append_right _ _ (Nat.le_refl _), Nat.sub_self]; rfl
  dsimp only
  rw [e]
  dsimp only
  rw [if_pos hl]
  show P .non ⟨(c ++ .lst us :: G).set c.length (.lst (us ++ [w])), mark none c.length (W.low c.length w)⟩ = _
  rw [s2, W.pure_low hw]
  rfl
theorem isl_end {us : List W} {G : List Cell} : isL (C (c ++ .lst us :: G)) (.ref c.length) = true := by
  unfold isL
  have e : (c ++ .lst us :: G)[c.length]? = some (.lst us) := c_get
  dsimp only
  rw [e]
theorem isN_eq (w : W) (h : W.pure w = true) (st : Sto) (X : XP) (P : W → Sto → Prop) : Ok (wIsN w .non st) X P = P (.bl (isNonB w)) st := by
  cases w <;> first | rfl | (cases h)
theorem row_ok (ha : asc s) (hl : s.length ≤ 900000) : F__row_told [.str s] (C c) = .ok (rowV s) (C c) := by
  refine run_eq ?_
  have sep : TL.tl (Str.ofString ",") ≠ [] := by decide
  have sk : (Str.ofString ",").cps.all (· < 256) = true := by decide +kernel
  obtain ⟨ps, hps⟩ : ∃ ps, ps = Txt.split s "," := ⟨_, rfl⟩
  have e1 : fSplit s [.str ","] (C (c ++ Cell.lst [] :: [])) = .ok (.ref (c ++ Cell.lst [] :: []).length) (C ((c ++ Cell.lst [] :: []) ++ Cell.lst (ps.map .str) :: [])) := by rw [hps]; exact split_run (s := s) (c := c ++ Cell.lst [] :: []) "," (by decide) (by omega)
  have lc : (c ++ Cell.lst [] :: []).length = c.length + 1 := by rw [List.length_append]; rfl
  have e1 : fSplit s [.str ","] (C (c ++ .lst [] :: [])) = .ok (.ref (c.length + 1)) (C (c ++ .lst [] :: .lst (ps.map .str) :: [])) := by rw [e1, lc, List.append_assoc]; rfl
  have gl : ∀ us : List W, RB.getL (C (c ++ .lst us :: .lst (ps.map .str) :: [])) (c.length + 1) = some (ps.map .str) := fun us => by
    unfold RB.getL
    show (match (c ++ .lst us :: .lst (ps.map .str) :: [])[c.length + 1]? with | some (.lst ws) => some ws | some (.scr ws) => some ws | _ => none) = _
    rw [List.getElem?_append_right (by omega), Nat.add_sub_cancel_left]
    rfl
  have pl : ps.length ≤ 900001 := by
    have := split_len (s := s) sep sk
    rw [hps]
    show (Txt.split s (Str.ofString ",")).length ≤ _
    omega
  have hrow : rowV s = if ps.any badP = true then .non else .tup (ps.map nmW) := by rw [hps]; rfl
  have push : (C c).push (.lst []) = C (c ++ .lst [] :: []) := rfl
  rw [hrow]
  unfold F__row_told
  exists (by decide : (0 : Nat) ≤ 1000), push, k_vSeq, k_ms, kk e1, gl
  refine loop_fix (ps.map .str) (fun i l st => ∃ o2 o3, l = [some (.str s), some (.ref c.length), o2, o3] ∧ st = C (c ++ .lst ((ps.take i).map nmW) :: .lst (ps.map .str) :: []) ∧ (ps.take i).any badP = false) (fun i l st hi => ?_) (fun i w l st hw hi => ?_) (fun l st hi => ?_) 1000000 0 _ _ (by rw [List.length_map]; omega) (Nat.zero_le _) ⟨none, none, rfl, rfl, rfl⟩
  · obtain ⟨o2, o3, rfl, rfl, _⟩ := hi
    show (RB.getL _ _).map _ = _
    rw [gl]; rfl
  · obtain ⟨o2, o3, rfl, rfl, hb⟩ := hi
    rw [List.getElem?_map] at hw
    cases ep : ps[i]? with
    | none => rw [ep] at hw; cases hw
    | some p =>
      rw [ep] at hw; cases hw
      refine ⟨_, rfl, ?_⟩
      have hp := List.mem_of_getElem? ep
      have hp2 := hp
      rw [hps] at hp
      obtain ⟨q1, q2⟩ := split_parts (s := s) sep sk hp
      have ap : asc p := asc_of ha q1
      have nk := num_ok (s := p) (c := c ++ .lst ((ps.take i).map nmW) :: .lst (ps.map .str) :: []) (by omega)
      have i1 := isN_eq (nmW p) (nm_pure p)
      have w1 := wne_str ap dash_asc
      have tk : ps.take (i + 1) = ps.take i ++ [p] := by rw [List.take_add_one, ep]; rfl
      have ll : ((ps.take i).map nmW).length < 1000000 := by rw [List.length_map, List.length_take]; omega
      have av := app_end (c := c) (G := .lst (ps.map .str) :: []) (us := (ps.take i).map nmW) (nm_pure p) ll
      have trim2 : ∀ {w : W} (hw : W.pure w = true) (X : XP) (P : W → Sto → Prop), Ok (trim c.length w (C (c ++ .lst ((ps.take i).map nmW) :: .lst (ps.map .str) :: []))) X P = P w (C c) := fun hw X P => by rw [k_trim hw, List.take_left]
      by_cases hbp : badP p = true
      · have any : ps.any badP = true := List.any_eq_true.mpr ⟨p, hp2, hbp⟩
        have hb2 := hbp
        unfold badP at hb2
        rw [Bool.and_eq_true, Bool.not_eq_true'] at hb2
        have w1' := fun st => (w1 st).trans (by rw [hb2.2]; rfl : _ = Res.ok (W.bl true) st)
        exists kk nk, i1, hb2.1, kk (w1' _), any
        rw [trim2 (w := .non) rfl]; exact ⟨rfl, rfl⟩
      · have hbf : badP p = false := by simpa using hbp
        have inv : ∃ o2 o3, [some (W.str s), some (W.ref c.length), some (W.str p), some (nmW p)] = [some (.str s), some (.ref c.length), o2, o3] ∧ C (c ++ .lst ((ps.take i).map nmW ++ [nmW p]) :: .lst (ps.map .str) :: []) = C (c ++ .lst ((ps.take (i + 1)).map nmW) :: .lst (ps.map .str) :: []) ∧ (ps.take (i + 1)).any badP = false :=
          ⟨_, _, rfl, by rw [tk, List.map_append]; rfl, by rw [tk, List.any_append, hb, List.any_cons, hbf]; rfl⟩
        have hb2 := hbf
        unfold badP at hb2
        cases en : isNonB (nmW p) with
        | false =>
          exists kk nk, i1, en, k_eMt, isl_end, av
          exact inv
        | true =>
          rw [en, Bool.true_and] at hb2
          have w1' := fun st => (w1 st).trans (by rw [hb2] : _ = Res.ok (W.bl false) st)
          exists kk nk, i1, en, kk (w1' _), k_eMt, isl_end, av
          exact inv
  · obtain ⟨o2, o3, rfl, rfl, hb⟩ := hi
    rw [List.length_map, List.take_length] at hb
    rw [List.length_map, List.take_length]
    have vt : ∀ (X : XP) (P : W → Sto → Prop), Ok (fTuple [.ref c.length] (C (c ++ .lst (ps.map nmW) :: .lst (ps.map .str) :: []))) X P = P (.tup (ps.map nmW)) (C (c ++ .lst (ps.map nmW) :: .lst (ps.map .str) :: [])) := fun X P => v_tup c_seq
    exists vt, hb
    rw [k_trim (show W.pure (.tup (ps.map nmW)) = true from pures_all fun w hw => by
      obtain ⟨o, _, rfl⟩ := List.mem_map.mp hw
      exact nm_pure o), List.take_left]
    exact ⟨rfl, rfl⟩
end
section
variable {c g : List Cell} {X : XP} {P : W → Sto → Prop} {l : Lo} {st : Sto} {s s' w : Str} {ws : List Str} {k : Nat}
theorem k_slL {a : Ev} {j : Int} : Ok (eSl a (poSome (eLit (.int j))) poNone l st) X P = Ok (a l st) X fun x st1 => Ok (wSl x (some j) none st1) X P := by
  unfold eSl; simp only [k_bind]; rfl
theorem v_slK {us : List W} {j : Int} (h : c[k]? = some (.lst us)) : Ok (wSl (.ref k) (some j) none (C c)) X P = P (.ref c.length) (C (c ++ .lst (cutW us (some j) none) :: [])) := by
  unfold wSl
  dsimp only
  rw [get_refK h]; rfl
theorem cut_tail2 {α : Type} (x y : α) (r : List α) : cutW (x :: y :: r) (some 2) none = r := by
  unfold cutW
  rw [show HT.sIx (x :: y :: r).length 0 (some 2) = 2 by rw [show (2 : Int) = ((2 : Nat) : Int) from rfl, HT.sIx_nat, List.length_cons, List.length_cons]; omega, HT.sIx_none, List.drop_succ_cons, List.drop_succ_cons, List.drop_zero, List.length_cons, List.length_cons]
  rw [show r.length + 1 + 1 - 2 = r.length by omega, List.take_length]
theorem in_two {a b : Str} (h : asc w) (ha : asc a) (hb : asc b) (st : Sto) : wIn (.str w) (.tup [.str a, .str b]) st = .ok (.bl (decide (w = a) || decide (w = b))) st := by
  have d1 : datOf st (.str w) = some (.str w) := by
    show (if PyData.strOk w = true then some (PyData.str w) else none) = _
    rw [if_pos (asc_ok h)]
  have one : ∀ {x : Str}, asc x → W.dat 7 (.str x) = some (.str x) := fun {x} hx => by
    show (if PyData.strOk x = true then some (PyData.str x) else none) = _
    rw [if_pos (asc_ok hx)]
  have d2 : W.dats 8 [.str a, .str b] = some [.str a, .str b] := by
    have e : W.dats 8 [.str a, .str b] = (match W.dat 7 (.str a), (match W.dat 7 (.str b), some [] with | some x, some y => some (x :: y) | _, _ => none) with | some x, some y => some (x :: y) | _, _ => none) := rfl
    rw [e, one ha, one hb]
  unfold wIn
  rw [d1]
  show (match some (PyData.str w), W.dats 8 [.str a, .str b] with | some d, some es => Res.ok (W.bl (es.any fun q => PyData.eqv q d)) st | _, _ => .err) = _
  rw [d2]
  have ev : ∀ (x : Str), PyData.eqv (.str x) (.str w) = decide (w = x) := fun x => by
    have : PyData.eqv (.str x) (.str w) = (x == w) := by first | rfl | simp [PyData.eqv]
    rw [this, Bool.eq_iff_iff, decide_eq_true_eq, beq_iff_eq]
    exact eq_comm
  dsimp only
  rw [List.any_cons, List.any_cons, List.any_nil, ev, ev, Bool.or_false]
def poolV (ws : List Str) : W := match ws with
  | [a, b, d] => (match rowV d with
    | .tup rs => if (isNonB (nmW a) || isNonB (nmW b)) = true then .non else .tup [.tup [nmW a, nmW b, .int (rs.length : Nat)], .tup rs]
    | _ => .non)
  | _ => .non
theorem row_two (s : Str) : rowV s = .non ∨ ∃ rs, rowV s = .tup rs ∧ W.pures rs = true := by
  unfold rowV
  split
  · exact .inl rfl
  · refine .inr ⟨_, rfl, ?_⟩
    exact (pures_all (ws := (Txt.split s ",").map nmW) fun w hw => by
      obtain ⟨o, _, rfl⟩ := List.mem_map.mp hw
      exact nm_pure o)
theorem pool_ok (hk : c[k]? = some (.lst (ws.map .str))) (ha : ∀ s ∈ ws, asc s ∧ s.length ≤ 900000) : F__pool_told [.ref k] (C c) = .ok (poolV ws) (C c) := by
  have gs : seqOf (C c) (.ref k) = some (ws.map .str) := get_refK hk
  have ln : ∀ (X : XP) (P : W → Sto → Prop), Ok (fLen [.ref k] (C c)) X P = P (.int (ws.length : Nat)) (C c) := fun X P => by
    have := v_lenL (x := .ref k) (X := X) (P := P) (by intro z h; cases h) gs
    rw [List.length_map] at this
    exact this
  refine run_eq ?_
  by_cases h3 : ws.length = 3
  · match ws, h3 with
    | [a, b, d], _ =>
      have ix : ∀ (i : Nat) (w : W), [W.str a, .str b, .str d][i]? = some w → ∀ (X : XP) (P : W → Sto → Prop), Ok (wIx (.ref k) (.int (i : Nat)) (C c)) X P = P w (C c) := fun i w hi X P => by
        refine v_ix gs ?_
        have : i < 3 := (List.getElem?_eq_some_iff.mp hi).1
        rw [atI_in (by omega) (by show ((i : Nat) : Int) < 3; omega), Int.toNat_natCast]; exact hi
      have i0 : ∀ (X : XP) (P : W → Sto → Prop), Ok (wIx (.ref k) (.int 0) (C c)) X P = P (.str a) (C c) := ix 0 _ rfl
      have i1 : ∀ (X : XP) (P : W → Sto → Prop), Ok (wIx (.ref k) (.int 1) (C c)) X P = P (.str b) (C c) := ix 1 _ rfl
      have i2 : ∀ (X : XP) (P : W → Sto → Prop), Ok (wIx (.ref k) (.int 2) (C c)) X P = P (.str d) (C c) := ix 2 _ rfl
      have n1 := num_ok (s := a) (c := c) (ha a (by simp)).2
      have n2 := num_ok (s := b) (c := c) (ha b (by simp)).2
      have n3 := row_ok (s := d) (c := c) (ha d (by simp)).1 (ha d (by simp)).2
      have m1 := isN_eq (nmW a) (nm_pure a)
      have m2 := isN_eq (nmW b) (nm_pure b)
      have ln : ∀ (X : XP) (P : W → Sto → Prop), Ok (fLen [.ref k] (C c)) X P = P (.int 3) (C c) := ln
      unfold F__pool_told poolV
      dsimp only
      rcases row_two d with q | ⟨rs, q, qp⟩
      · rw [q] at n3 ⊢
        cases e1 : isNonB (nmW a) with
        | true =>
          exists ln, k_par3, i0, kk n1, i1, kk n2, i2, kk n3, m1, e1
          rw [c_trim0 rfl]; exact ⟨rfl, rfl⟩
        | false =>
          cases e2 : isNonB (nmW b) with
          | true =>
            exists ln, k_par3, i0, kk n1, i1, kk n2, i2, kk n3, m1, e1, m2, e2
            rw [c_trim0 rfl]; exact ⟨rfl, rfl⟩
          | false =>
            exists ln, k_par3, i0, kk n1, i1, kk n2, i2, kk n3, m1, e1, m2, e2, isN_non
            rw [c_trim0 rfl]; exact ⟨rfl, rfl⟩
      · rw [q] at n3 ⊢
        dsimp only
        have lr : ∀ (X : XP) (P : W → Sto → Prop), Ok (fLen [.tup rs] (C c)) X P = P (.int (rs.length : Nat)) (C c) := fun X P => v_lenL (x := .tup rs) (by intro z h; cases h) rfl
        cases e1 : isNonB (nmW a) with
        | true =>
          exists ln, k_par3, i0, kk n1, i1, kk n2, i2, kk n3, m1, e1, Bool.true_or
          rw [c_trim0 rfl]; exact ⟨rfl, rfl⟩
        | false =>
          cases e2 : isNonB (nmW b) with
          | true =>
            exists ln, k_par3, i0, kk n1, i1, kk n2, i2, kk n3, m1, e1, m2, e2, Bool.or_true
            rw [c_trim0 rfl]; exact ⟨rfl, rfl⟩
          | false =>
            exists ln, k_par3, i0, kk n1, i1, kk n2, i2, kk n3, m1, e1, m2, e2, isN_tup, lr, Bool.or_false, (by decide : (3 : Nat) ≤ 1000), (by decide : (2 : Nat) ≤ 1000)
            rw [c_trim0 (show W.pure (.tup [.tup [nmW a, nmW b, .int (rs.length : Nat)], .tup rs]) = true by
              show ((W.pure (nmW a) && (W.pure (nmW b) && (true && true))) && (W.pures rs && true)) = true
              rw [nm_pure, nm_pure, qp]; rfl)]
            exact ⟨rfl, rfl⟩
  · have e : (((ws.length : Nat) : Int) = 3) = False := eq_false (by omega)
    have ev : poolV ws = .non := by
      unfold poolV
      split
      · exact absurd rfl h3
      · rfl
    rw [ev]
    unfold F__pool_told
    exists ln, e
    rw [c_trim0 rfl]
    exact ⟨rfl, rfl⟩
def boV (ws : List Str) : W := match ws with
  | [] => .non
  | w :: r => (match betV w, offsV r with
    | some b, some os => .tup [betP (some b), otsW os]
    | _, _ => .non)
theorem ots_pure (os : List OT) : W.pure (otsW os) = true := pures_all fun w hw => by
  obtain ⟨o, _, rfl⟩ := List.mem_map.mp hw
  exact ot_pure o
theorem bo_ok (hk : c[k]? = some (.lst (ws.map .str))) (ha : ∀ s ∈ ws, asc s ∧ s.length ≤ 900000) (hl : ws.length < 1000000) : F__bet_and_offers_told [.ref k] (C c) = .ok (boV ws) (C c) := by
  have gs : seqOf (C c) (.ref k) = some (ws.map .str) := get_refK hk
  have ln : ∀ (X : XP) (P : W → Sto → Prop), Ok (fLen [.ref k] (C c)) X P = P (.int (ws.length : Nat)) (C c) := fun X P => by
    have := v_lenL (x := .ref k) (X := X) (P := P) (by intro z h; cases h) gs
    rw [List.length_map] at this
    exact this
  refine run_eq ?_
  unfold F__bet_and_offers_told
  match ws with
  | [] =>
    have ln : ∀ (X : XP) (P : W → Sto → Prop), Ok (fLen [.ref k] (C c)) X P = P (.int 0) (C c) := ln
    exists ln
    rw [c_trim0 rfl]
    exact ⟨rfl, rfl⟩
  | w :: r =>
    have e : ((((w :: r).length : Nat) : Int) = 0) = False := eq_false (by rw [List.length_cons]; omega)
    have i0 : ∀ (X : XP) (P : W → Sto → Prop), Ok (wIx (.ref k) (.int 0) (C c)) X P = P (.str w) (C c) := fun X P => v_ix (ws := (w :: r).map .str) gs (atI_head _ _)
    have b1 := bet_ok (s := w) (c := c) (ha w (by simp)).1 (ha w (by simp)).2
    have sl : ∀ (X : XP) (P : W → Sto → Prop), Ok (wSl (.ref k) (some 1) none (C c)) X P = P (.ref c.length) (C (c ++ .lst (r.map .str) :: [])) := fun X P => by
      rw [v_slK hk, List.map_cons, cut_tail]
    have o1 := offers_told_ok (c := c ++ .lst (r.map .str) :: []) (k := c.length) (ws := r) c_get (fun s hs => ha s (List.mem_cons_of_mem _ hs)) (by rw [List.length_cons] at hl; omega)
    unfold boV
    dsimp only
    have tr : ∀ {v : W} (hv : W.pure v = true) (X : XP) (P : W → Sto → Prop), Ok (trim c.length v (C (c ++ .lst (r.map .str) :: []))) X P = P v (C c) := fun hv X P => by rw [k_trim hv, List.take_left]
    cases eb : betV w with
    | none =>
      rw [eb] at b1
      have b1 : F_bet_told [.str w] (C c) = .ok .non (C c) := b1
      cases eo : offsV r with
      | none =>
        exists ln, e, i0, kk b1, k_slL, sl, kk o1, isN_non
        rw [tr (v := .non) rfl]; exact ⟨rfl, rfl⟩
      | some os =>
        exists ln, e, i0, kk b1, k_slL, sl, kk o1, isN_non
        rw [tr (v := .non) rfl]; exact ⟨rfl, rfl⟩
    | some b =>
      rw [eb] at b1
      have bp : W.pure (betP (some b)) = true := bet_pureW b
      have nb : ∀ (st : Sto) (X : XP) (P : W → Sto → Prop), Ok (wIsN (betP (some b)) .non st) X P = P (.bl false) st := fun st X P => by
        rw [isN_eq _ bp]
        cases b <;> rfl
      cases eo : offsV r with
      | none =>
        rw [eo] at o1
        have o1 : F_offers_told [.ref c.length] (C (c ++ .lst (r.map .str) :: [])) = .ok .non (C (c ++ .lst (r.map .str) :: [])) := o1
        exists ln, e, i0, kk b1, k_slL, sl, kk o1, nb, isN_non
        rw [tr (v := .non) rfl]; exact ⟨rfl, rfl⟩
      | some os =>
        rw [eo] at o1
        have o1 : F_offers_told [.ref c.length] (C (c ++ .lst (r.map .str) :: [])) = .ok (otsW os) (C (c ++ .lst (r.map .str) :: [])) := o1
        have no : ∀ (st : Sto) (X : XP) (P : W → Sto → Prop), Ok (wIsN (otsW os) .non st) X P = P (.bl false) st := fun st X P => rfl
        exists ln, e, i0, kk b1, k_slL, sl, kk o1, nb, no, (by decide : (2 : Nat) ≤ 1000)
        rw [tr (v := .tup [betP (some b), otsW os]) (by
          show (W.pure (betP (some b)) && (W.pure (otsW os) && true)) = true
          rw [bp, ots_pure]; rfl)]
        exact ⟨rfl, rfl⟩
end
section
variable {c g : List Cell} {X : XP} {P : W → Sto → Prop} {l : Lo} {st : Sto} {s s' w : Str} {ws : List Str} {k : Nat}
theorem show_asc : asc "show" := asc_lit _ (by decide +kernel)
theorem outcomes_asc : asc "outcomes" := asc_lit _ (by decide +kernel)
theorem sure_asc : asc "sure" := asc_lit _ (by decide +kernel)
theorem surest_asc : asc "surest" := asc_lit _ (by decide +kernel)
theorem top_asc : asc "top" := asc_lit _ (by decide +kernel)
theorem low_asc : asc "low" := asc_lit _ (by decide +kernel)
def behindV (w : Str) (ws : List Str) : W :=
  if w = "race" then raceP (raceVs ws) else
  if (decide (w = "show") || decide (w = "outcomes")) = true then (if ws.length = 0 then .tup [] else .non) else
  if (decide (w = "sure") || decide (w = "surest")) = true then (if 0 < ws.length then optL (fun os => otsW os) (offsV ws) else .non) else
  if (decide (w = "top") || decide (w = "low")) = true then boV ws else .non
theorem raceP_pure (o : Option (Nat × Bool × List Nat × List Nat)) : W.pure (raceP o) = true := by
  cases o with
  | none => rfl
  | some p =>
    obtain ⟨n, t, x, y⟩ := p
    show (true && (true && (W.pures (nW x) && (W.pures (nW y) && true)))) = true
    rw [nW_pure, nW_pure]; rfl
theorem optL_pure (o : Option (List OT)) : W.pure (optL (fun os => otsW os) o) = true := by
  cases o with
  | none => rfl
  | some os => exact ots_pure os
theorem boV_pure (ws : List Str) : W.pure (boV ws) = true := by
  unfold boV
  split
  · rfl
  · split
    · rename_i b os eb eo
      show (W.pure (betP (some b)) && (W.pure (otsW os) && true)) = true
      rw [show W.pure (betP (some b)) = true from bet_pureW b, ots_pure]; rfl
    · rfl
theorem behind_ok (hw : asc w) (hk : c[k]? = some (.lst (ws.map .str))) (ha : ∀ s ∈ ws, asc s ∧ s.length ≤ 900000) (hl : ws.length < 1000000) : F__told_behind_name [.str w, .ref k] (C c) = .ok (behindV w ws) (C c) := by
  have gs : seqOf (C c) (.ref k) = some (ws.map .str) := get_refK hk
  have ln : ∀ (X : XP) (P : W → Sto → Prop), Ok (fLen [.ref k] (C c)) X P = P (.int (ws.length : Nat)) (C c) := fun X P => by
    have := v_lenL (x := .ref k) (X := X) (P := P) (by intro z h; cases h) gs
    rw [List.length_map] at this
    exact this
  have q1 := weq_str hw race_asc (C c)
  have q2 := in_two hw show_asc outcomes_asc (C c)
  have q3 := in_two hw sure_asc surest_asc (C c)
  have q4 := in_two hw top_asc low_asc (C c)
  refine run_eq ?_
  unfold F__told_behind_name behindV
  by_cases h1 : w = "race"
  · rw [if_pos h1]
    rw [decide_eq_true h1] at q1
    have r := race_told_any hk ha
    exists kk q1, kk r
    rw [c_trim0 (raceP_pure _)]; exact ⟨rfl, rfl⟩
  · rw [if_neg h1]
    rw [decide_eq_false h1] at q1
    cases h2 : (decide (w = "show") || decide (w = "outcomes")) with
    | true =>
      rw [h2] at q2
      rw [if_pos rfl]
      by_cases h0 : ws.length = 0
      · have e : (((ws.length : Nat) : Int) = 0) = True := eq_true (by omega)
        rw [if_pos h0]
        exists kk q1, (by decide : (2 : Nat) ≤ 1000), kk q2, ln, e, (by decide : (0 : Nat) ≤ 1000)
        rw [c_trim0 (w := .tup []) rfl]; exact ⟨rfl, rfl⟩
      · have e : (((ws.length : Nat) : Int) = 0) = False := eq_false (by omega)
        rw [if_neg h0]
        exists kk q1, (by decide : (2 : Nat) ≤ 1000), kk q2, ln, e
        rw [c_trim0 rfl]; exact ⟨rfl, rfl⟩
    | false =>
      rw [h2] at q2
      rw [if_neg (by decide)]
      cases h3 : (decide (w = "sure") || decide (w = "surest")) with
      | true =>
        rw [h3] at q3
        rw [if_pos rfl]
        by_cases h0 : 0 < ws.length
        · have e : ((0 : Int) < ((ws.length : Nat) : Int)) = True := eq_true (by omega)
          rw [if_pos h0]
          have r := offers_told_ok hk ha hl
          exists kk q1, (by decide : (2 : Nat) ≤ 1000), kk q2, kk q3, ln, e, kk r
          rw [c_trim0 (optL_pure _)]; exact ⟨rfl, rfl⟩
        · have e : ((0 : Int) < ((ws.length : Nat) : Int)) = False := eq_false (by omega)
          rw [if_neg h0]
          exists kk q1, (by decide : (2 : Nat) ≤ 1000), kk q2, kk q3, ln, e
          rw [c_trim0 rfl]; exact ⟨rfl, rfl⟩
      | false =>
        rw [h3] at q3
        rw [if_neg (by decide)]
        cases h4 : (decide (w = "top") || decide (w = "low")) with
        | true =>
          rw [h4] at q4
          rw [if_pos rfl]
          have r := bo_ok hk ha hl
          exists kk q1, (by decide : (2 : Nat) ≤ 1000), kk q2, kk q3, kk q4, kk r
          rw [c_trim0 (boV_pure _)]; exact ⟨rfl, rfl⟩
        | false =>
          rw [h4] at q4
          rw [if_neg (by decide)]
          exists kk q1, (by decide : (2 : Nat) ≤ 1000), kk q2, kk q3, kk q4
          rw [c_trim0 rfl]; exact ⟨rfl, rfl⟩
def nameV (w : Str) : Bool := Txt.isascii w && (Txt.isalpha w && (Txt.islower w && decide (w.length ≤ 12)))
theorem name_ok (hl : w.length ≤ 900000) : F__is_name [.str w] (C c) = .ok (.bl (nameV w)) (C c) := by
  refine run_eq ?_
  have ln : ∀ (X : XP) (P : W → Sto → Prop), Ok (fLen [.str w] (C c)) X P = P (.int (w.length : Nat)) (C c) := fun X P => v_lenS (by omega)
  have vl : ∀ (X : XP) (P : W → Sto → Prop), Ok (wLe (.int (w.length : Nat)) (.int 12) (C c)) X P = P (.bl (decide (w.length ≤ 12))) (C c) := fun X P => by
    show P (.bl (decide (((w.length : Nat) : Int) ≤ 12))) (C c) = _
    rw [show decide (((w.length : Nat) : Int) ≤ 12) = decide (w.length ≤ 12) from decide_eq_decide.mpr (by omega)]
  unfold F__is_name nameV
  cases e1 : Txt.isascii w with
  | false =>
    exists k_ms0, v_is, e1
    rw [c_trim0 rfl]; exact ⟨rfl, rfl⟩
  | true =>
    cases e2 : Txt.isalpha w with
    | false =>
      exists k_ms0, v_is, e1, e2
      rw [c_trim0 rfl]; exact ⟨rfl, rfl⟩
    | true =>
      cases e3 : Txt.islower w with
      | false =>
        exists k_ms0, v_is, e1, e2, e3
        rw [c_trim0 rfl]; exact ⟨rfl, rfl⟩
      | true =>
        simp (config := {decide := false, implicitDefEqProofs := false}) only [k_defn, List.map_cons, List.map_nil, List.length_cons, List.length_nil, List.cons_append, List.nil_append, k_sRet, k_eAnd, k_bin, k_eB, k_cons, k_nil, k_lit, k_ms0, k_loc, v_is, e1, e2, e3, ln, vl, if_true, List.getElem?_cons_zero, Nat.zero_add, Nat.sub_self, List.replicate_zero, List.append_nil]
        rw [c_trim0 rfl]; exact ⟨by rw [Bool.true_and, Bool.true_and, Bool.true_and], rfl⟩
def tk3 (w : Str) (n t : W) : W := if isNonB t = true then .non else .tup [.str w, n, t]
def taskN (w : Str) (r : List Str) : W := match r with
  | [] => .non
  | n :: r2 => if nameV n = true then tk3 w (.str n) (behindV w r2) else .non
def taskW (w : Str) (r : List Str) : W := if (decide (w = "comes") || decide (w = "least")) = true then tk3 w .non (poolV r) else taskN w r
def taskV (s : Str) : W := match Txt.split s " " with
  | [] => .non
  | w :: r => taskW w r
theorem behind_pure (w : Str) (ws : List Str) : W.pure (behindV w ws) = true := by
  unfold behindV
  split
  · exact raceP_pure _
  · split
    · split <;> rfl
    · split
      · split
        · exact optL_pure _
        · rfl
      · split
        · exact boV_pure _
        · rfl
theorem pool_pure (ws : List Str) : W.pure (poolV ws) = true := by
  unfold poolV
  split
  · rename_i a b d
    rcases row_two d with q | ⟨rs, q, qp⟩
    · rw [q]; rfl
    · rw [q]
      dsimp only
      split
      · rfl
      · show ((W.pure (nmW a) && (W.pure (nmW b) && (true && true))) && (W.pures rs && true)) = true
        rw [nm_pure, nm_pure, qp]; rfl
  · rfl
theorem tk3_pure {n t : W} (hn : W.pure n = true) (ht : W.pure t = true) : W.pure (tk3 w n t) = true := by
  unfold tk3
  split
  · rfl
  · show (true && (W.pure n && (W.pure t && true))) = true
    rw [hn, ht]; rfl
theorem task_pure (s : Str) : W.pure (taskV s) = true := by
  unfold taskV
  split
  · rfl
  · unfold taskW
    split
    · exact tk3_pure rfl (pool_pure _)
    · unfold taskN
      split
      · rfl
      · split
        · exact tk3_pure rfl (behind_pure _ _)
        · rfl
theorem inK_two (w : Str) : ([Str.ofString "comes", Str.ofString "least"] : List Str).contains w = (decide (w = "comes") || decide (w = "least")) := by
  rw [List.contains_cons, List.contains_cons, List.contains_nil, Bool.or_false]
  have e : ∀ x : Str, (w == x) = decide (w = x) := fun x => by rw [Bool.eq_iff_iff, decide_eq_true_eq, beq_iff_eq]
  rw [e, e]
theorem k_inK {ks : List Str} {a : Ev} : Ok (eInK ks a l st) X P = Ok (a l st) X fun x st1 => match x with | .str s => P (.bl (ks.contains s)) st1 | _ => False := by
  unfold eInK; simp only [k_bind]; congr 1; funext x st1; cases x <;> rfl
theorem task_ok (ha : asc s) (hl : s.length ≤ 900000) {w0 : Str} {r : List Str} (hw : Txt.split s " " = w0 :: r) : F__task [.str s] (C c) = .ok (taskV s) (C c) := by
  refine run_eq ?_
  obtain ⟨K, hK⟩ : ∃ K, K = c ++ Cell.lst ((w0 :: r).map .str) :: [] := ⟨_, rfl⟩
  have e1 : fSplit s [.str " "] (C c) = .ok (.ref c.length) (C K) := by rw [hK, ← hw]; exact split_run " " (by decide) (by omega)
  have gk : K[c.length]? = some (.lst ((w0 :: r).map .str)) := by rw [hK]; exact c_get
  have gs : seqOf (C K) (.ref c.length) = some ((w0 :: r).map .str) := get_refK gk
  have parts : ∀ x ∈ w0 :: r, asc x ∧ x.length ≤ 900000 := fun x hx => by
    have hm : x ∈ Txt.split s (Str.ofString " ") := by rw [show Txt.split s (Str.ofString " ") = w0 :: r from hw]; exact hx
    obtain ⟨p1, p2⟩ := split_parts sp_sep sp_k hm
    exact ⟨asc_of ha p1, by omega⟩
  have wl : (w0 :: r).length ≤ 900001 := by
    have := split_len (s := s) sp_sep sp_k
    rw [show Txt.split s (Str.ofString " ") = w0 :: r from hw] at this
    omega
  have i0 : ∀ (X : XP) (P : W → Sto → Prop), Ok (wIx (.ref c.length) (.int 0) (C K)) X P = P (.str w0) (C K) := fun X P => v_ix (ws := (w0 :: r).map .str) gs (atI_head _ _)
  have ln : ∀ (X : XP) (P : W → Sto → Prop), Ok (fLen [.ref c.length] (C K)) X P = P (.int ((w0 :: r).length : Nat)) (C K) := fun X P => by
    have := v_lenL (x := .ref c.length) (X := X) (P := P) (by intro z h; cases h) gs
    rw [List.length_map] at this
    exact this
  have tr : ∀ {v : W} {G : List Cell} (hv : W.pure v = true) (X : XP) (P : W → Sto → Prop), Ok (trim c.length v (C (K ++ G))) X P = P v (C c) := fun hv X P => by rw [k_trim hv, hK, List.append_assoc, List.take_left]
  have tr0 : ∀ {v : W} (hv : W.pure v = true) (X : XP) (P : W → Sto → Prop), Ok (trim c.length v (C K)) X P = P v (C c) := fun hv X P => by rw [k_trim hv, hK, List.take_left]
  have tv : taskV s = taskW w0 r := by
    unfold taskV
    rw [hw]
  rw [tv]
  unfold taskW
  have iN := fun (v : W) (h : W.pure v = true) => isN_eq v h
  unfold F__task
  cases h0 : (decide (w0 = "comes") || decide (w0 = "least")) with
  | true =>
    rw [if_pos rfl]
    have sl : ∀ (X : XP) (P : W → Sto → Prop), Ok (wSl (.ref c.length) (some 1) none (C K)) X P = P (.ref K.length) (C (K ++ .lst (r.map .str) :: [])) := fun X P => by
      rw [v_slK gk, List.map_cons, cut_tail]
    have po := pool_ok (c := K ++ .lst (r.map .str) :: []) (k := K.length) (ws := r) c_get fun x hx => parts x (List.mem_cons_of_mem _ hx)
    have pp := pool_pure r
    have in1 := iN (poolV r) pp
    unfold tk3
    cases en : isNonB (poolV r) with
    | true =>
      exists k_ms, kk e1, i0, k_inK, inK_two, h0, k_slL, sl, kk po, in1, en
      rw [tr (v := .non) rfl]; exact ⟨rfl, rfl⟩
    | false =>
      exists k_ms, kk e1, i0, k_inK, inK_two, h0, k_slL, sl, kk po, in1, en, (by decide : (3 : Nat) ≤ 1000)
      rw [tr (v := .tup [.str w0, .non, poolV r]) (by show (true && (true && (W.pure (poolV r) && true))) = true; rw [pp]; rfl)]
      exact ⟨rfl, rfl⟩
  | false =>
    rw [if_neg (by decide)]
    match r with
    | [] =>
      have ln : ∀ (X : XP) (P : W → Sto → Prop), Ok (fLen [.ref c.length] (C K)) X P = P (.int 1) (C K) := ln
      have e : ((1 : Int) < 1) = False := eq_false (by decide)
      show Ok _ _ (fun (b : W) t => b = W.non ∧ t = C c)
      exists k_ms, kk e1, i0, k_inK, inK_two, h0, ln, e
      rw [tr0 (v := .non) rfl]; exact ⟨rfl, rfl⟩
    | n :: r2 =>
      have e : ((1 : Int) < ((r2.length + 1 + 1 : Nat) : Int)) = True := eq_true (by omega)
      have ln : ∀ (X : XP) (P : W → Sto → Prop), Ok (fLen [.ref c.length] (C K)) X P = P (.int (r2.length + 1 + 1 : Nat)) (C K) := ln
      unfold taskN
      have i1 : ∀ (X : XP) (P : W → Sto → Prop), Ok (wIx (.ref c.length) (.int 1) (C K)) X P = P (.str n) (C K) := fun X P => by
        refine v_ix (ws := (w0 :: n :: r2).map .str) gs ?_
        rw [show (1 : Int) = ((1 : Nat) : Int) from rfl, atI_in (by omega) (by rw [List.length_map, List.length_cons, List.length_cons]; omega)]
        rfl
      have no := name_ok (w := n) (c := K) (parts n (by simp)).2
      dsimp only
      cases hn : nameV n with
      | false =>
        rw [hn] at no
        exists k_ms, kk e1, i0, k_inK, inK_two, h0, ln, e, i1, kk no, truth
        rw [tr0 (v := .non) rfl]; exact ⟨rfl, rfl⟩
      | true =>
        rw [hn] at no
        rw [if_pos rfl]
        have sl : ∀ (X : XP) (P : W → Sto → Prop), Ok (wSl (.ref c.length) (some 2) none (C K)) X P = P (.ref K.length) (C (K ++ .lst (r2.map .str) :: [])) := fun X P => by
          rw [v_slK gk, List.map_cons, List.map_cons, cut_tail2]
        have po := behind_ok (w := w0) (c := K ++ .lst (r2.map .str) :: []) (k := K.length) (ws := r2) (parts w0 (by simp)).1 c_get (fun x hx => parts x (List.mem_cons_of_mem _ (List.mem_cons_of_mem _ hx))) (by rw [List.length_cons, List.length_cons] at wl; omega)
        have pp := behind_pure w0 r2
        have in1 := iN (behindV w0 r2) pp
        unfold tk3
        cases en : isNonB (behindV w0 r2) with
        | true =>
          exists k_ms, kk e1, i0, k_inK, inK_two, h0, ln, e, i1, kk no, truth, k_slL, sl, kk po, in1, en
          rw [tr (v := .non) rfl]; exact ⟨rfl, rfl⟩
        | false =>
          exists k_ms, kk e1, i0, k_inK, inK_two, h0, ln, e, i1, kk no, truth, k_slL, sl, kk po, in1, en, (by decide : (3 : Nat) ≤ 1000)
          rw [tr (v := .tup [.str w0, .str n, behindV w0 r2]) (by show (true && (true && (W.pure (behindV w0 r2) && true))) = true; rw [pp]; rfl)]
          exact ⟨rfl, rfl⟩
end
section
variable {c g : List Cell} {X : XP} {P : W → Sto → Prop} {l : Lo} {st : Sto} {s s' w : Str} {ws : List Str} {k n d q : Nat}
theorem k_fldA {j : Nat} {f : Str} {a : Ev} : Ok (eFld j f a l st) X P = Ok (a l st) X fun x st1 => match x with | .ref n => (match st1.c[n]? with | some (.ins k fs) => if k = j then (match fs.lookup f with | some v => P v st1 | none => False) else False | _ => False) | _ => False := by
  unfold eFld; rw [k_bind]; congr 1; funext x st1
  cases x <;> try rfl
  rename_i n
  dsimp only
  cases st1.c[n]? with
  | none => rfl
  | some cc =>
    cases cc <;> try rfl
    rename_i k fs
    dsimp only
    rw [k_ite]
    split
    · cases List.lookup f fs <;> rfl
    · rfl
theorem fldA {j : Nat} {f : Str} {v : W} {fs : List (Str × W)} {i : Nat} (ha : l[i]? = some (some (.ref n))) (hn : st.c[n]? = some (.ins j fs)) (e : fs.lookup f = some v) : Ok (eFld j f (eLoc i) l st) X P = P v st := by
  rw [k_fldA, k_loc, ha]
  dsimp only
  rw [hn]
  dsimp only
  rw [if_pos rfl, e]
theorem methX_at {j i : Nat} {m : Str} {F : List W → Sto → Res W} {a : Evs} {fs : List (Str × W)} (ha : l[i]? = some (some (.ref n))) (hn : st.c[n]? = some (.ins j fs)) (e : fs.lookup m = none) : Ok (eMethX j m F (eLoc i) a l st) X P = Ok (a l st) X fun ws st1 => Ok (F (.ref n :: ws) st1) X P := by
  have e0 : eLoc i l st = .ok (.ref n) st := by unfold eLoc; rw [ha]
  unfold eMethX
  rw [e0]
  show Ok (match st.c[n]? with | some (.ins k fs) => if k = j ∧ fs.lookup m = none then (a l st).bind fun ws st2 => F (.ref n :: ws) st2 else .err | _ => .err) X P = _
  rw [hn]
  dsimp only
  rw [if_pos ⟨rfl, e⟩, k_bind]
theorem k_noX {r : Res W} : Ok (noX r) X P = Ok r (fun _ _ _ => False) P := by cases r <;> rfl
theorem meth_at {j i : Nat} {m : Str} {F : List W → Sto → Res W} {a : Evs} {fs : List (Str × W)} (ha : l[i]? = some (some (.ref n))) (hn : st.c[n]? = some (.ins j fs)) (e : fs.lookup m = none) : Ok (eMeth j m F (eLoc i) a l st) X P = Ok (a l st) X fun ws st1 => Ok (F (.ref n :: ws) st1) (fun _ _ _ => False) P := by
  have e0 : eLoc i l st = .ok (.ref n) st := by unfold eLoc; rw [ha]
  unfold eMeth
  rw [e0]
  show Ok (match st.c[n]? with | some (.ins k fs) => if k = j ∧ fs.lookup m = none then (a l st).bind fun ws st2 => noX (F (.ref n :: ws) st2) else .err | _ => .err) X P = _
  rw [hn]
  dsimp only
  rw [if_pos ⟨rfl, e⟩, k_bind]
  congr 1; funext ws st1
  exact k_noX
def conF (d q : Nat) : List (Str × W) := [("_races", .ref d), ("_commands", .ref q)]
theorem con_w (d q : Nat) : List.lookup (Str.ofString "_worked_out") (conF d q) = none := rfl
theorem con_a (d q : Nat) : List.lookup (Str.ofString "_answer") (conF d q) = none := rfl
theorem con_r (d q : Nat) : List.lookup (Str.ofString "_repeat") (conF d q) = none := rfl
theorem con_l (d q : Nat) : List.lookup (Str.ofString "log") (conF d q) = none := rfl
theorem con_f (d q : Nat) : List.lookup (Str.ofString "_races") (conF d q) = some (W.ref d) := rfl
theorem con_c (d q : Nat) : List.lookup (Str.ofString "_commands") (conF d q) = some (W.ref q) := rfl
theorem tup3T (a b d : W) (t : Tgs) (l : Lo) (st : Sto) : tgTup 3 t (.tup [a, b, d]) l st = t [a, b, d] l st := rfl
theorem set_old {i : Nat} {x : Cell} (h : i < c.length) : (c ++ g).set i x = c.set i x ++ g := List.set_append_left _ _ h
theorem trim_mark {c' : List Cell} {m z : Nat} (v : W) (h : m < z) : trim z v ⟨c', some m⟩ = .ok v ⟨c', some m⟩ := by
  unfold trim
  rw [if_neg (show ¬ Sto.may ⟨c', some m⟩ z = true from fun hh => by
    have := of_decide_eq_true (show decide (z ≤ m) = true from hh)
    omega)]
theorem worked_race {N : Nat} {t : Bool} {ab cu : List Nat} {ds : List (Str × W)} (hn : c[n]? = some (.ins 2 (conF d q))) (hd : c[d]? = some (.dct ds)) (hl : ds.length < 1000) (hr : RcOk N (iN ab) (iN cu)) :
    F_Console_worked_out [.ref n, .tup [.str "race", .str s, raceP (some (N, t, ab, cu))]] (C c) = .ok (.str "ok") ⟨c.set d (.dct (dPut ds s (.ref c.length))) ++ raceG N t (iN ab) (iN cu) :: [], some d⟩ := by
  have i0 := LW.init_gen (c := c) (t := t) hr (x := .tup (nW ab)) (y := .tup (nW cu)) (by rw [nW_i]; rfl) (by rw [nW_i]; rfl)
  have push : (C c).push (.ins 0 []) = C (c ++ .ins 0 [] :: []) := rfl
  have cl : (C c).c.length = c.length := rfl
  have q1 := weq_str race_asc race_asc (C c)
  rw [decide_eq_true rfl] at q1
  have hlt := (List.getElem?_eq_some_iff.mp hd).1
  have nlt := (List.getElem?_eq_some_iff.mp hn).1
  have rp : raceP (some (N, t, ab, cu)) = .tup [.int (N : Nat), .bl t, .tup (nW ab), .tup (nW cu)] := rfl
  have put : ∀ (l : Lo) (D : Po4) (h0 : l[0]? = some (some (.ref n))) (h3 : l[3]? = some (some (.str s))) (h5 : l[5]? = some (some (.int (N : Nat)))) (h6 : l[6]? = some (some (.bl t))) (h7 : l[7]? = some (some (.tup (nW ab)))) (h8 : l[8]? = some (some (.tup (nW cu)))),
      OkS (RB.sDPut (eFld 2 "_races" (eLoc 0)) (eLoc 3) (eMake 0 F_Race_init [] (evCons (eLoc 5) (evCons (eLoc 6) (evCons (eLoc 7) (evCons (eLoc 8) evNil))))) l (C c)) D = D.nx l ⟨c.set d (.dct (dPut ds s (.ref c.length))) ++ raceG N t (iN ab) (iN cu) :: [], some d⟩ := fun l D h0 h3 h5 h6 h7 h8 => by
    unfold RB.sDPut
    rw [k_xs]
    exists k_makeD, h5, h6, h7, h8, push, cl, kk i0
    have hn2 : (C (c ++ raceG N t (iN ab) (iN cu) :: [])).c[n]? = some (.ins 2 (conF d q)) := by
      show (c ++ _)[n]? = _
      rw [List.getElem?_append_left nlt]; exact hn
    rw [k_xs, fldA h0 hn2 (con_f d q), k_xs, k_loc, h3]
    dsimp only
    rw [show (c ++ raceG N t (iN ab) (iN cu) :: [])[d]? = some (.dct ds) by rw [List.getElem?_append_left hlt]; exact hd]
    dsimp only
    rw [if_pos hl, k_nx]
    show D.nx l ⟨(c ++ raceG N t (iN ab) (iN cu) :: []).set d (.dct (dPut ds s (.ref c.length))), mark none d (decide (c.length < d))⟩ = _
    rw [set_old hlt, decide_eq_false (by omega)]
    rfl
  refine run_eq ?_
  unfold F_Console_worked_out
  rw [rp]
  exists tup3T, kk q1, tup4S
  rw [put _ _ rfl rfl rfl rfl rfl rfl]
  dsimp only
  rw [trim_mark _ hlt]
  exact ⟨rfl, rfl⟩
theorem worked_bad {a b e f : W} {i : Int} (hB : ∀ (c : List Cell) (z : W), F_Race_init [z, a, b, e, f] (C c) = .exc 0 (.int i) (C c)) :
    F_Console_worked_out [.ref n, .tup [.str "race", .str s, .tup [a, b, e, f]]] (C c) = .exc 0 (.int i) (C c) := by
  have push : (C c).push (.ins 0 []) = C (c ++ .ins 0 [] :: []) := rfl
  have cl : (C c).c.length = c.length := rfl
  have q1 := weq_str race_asc race_asc (C c)
  rw [decide_eq_true rfl] at q1
  have i0 := hB (c ++ .ins 0 [] :: []) (.ref c.length)
  have may : ((C (c ++ .ins 0 [] :: [])).may c.length && W.pure (.int i)) = true := rfl
  have cut : (C (c ++ .ins 0 [] :: [])).cut c.length = C c := x_cut2
  have put : ∀ (l : Lo) (D : Po4) (h5 : l[5]? = some (some a)) (h6 : l[6]? = some (some b)) (h7 : l[7]? = some (some e)) (h8 : l[8]? = some (some f)),
      OkS (RB.sDPut (eFld 2 "_races" (eLoc 0)) (eLoc 3) (eMake 0 F_Race_init [] (evCons (eLoc 5) (evCons (eLoc 6) (evCons (eLoc 7) (evCons (eLoc 8) evNil))))) l (C c)) D = D.ex 0 (.int i) l (C (c ++ .ins 0 [] :: [])) := fun l D h5 h6 h7 h8 => by
    unfold RB.sDPut
    rw [k_xs]
    exists k_makeD, h5, h6, h7, h8, push, cl, kx i0
  refine run_exc ?_
  unfold F_Console_worked_out
  exists tup3T, kk q1, tup4S
  rw [put _ _ rfl rfl rfl rfl]
  dsimp only
  rw [if_pos may, cut]
  exact ⟨rfl, rfl, rfl⟩
theorem answer_ok {T : W} {c' : List Cell} {v : Str} (hn : c[n]? = some (.ins 2 (conF d q))) (hlt : d < c.length) (h : F_Console_worked_out [.ref n, T] (C c) = .ok (.str v) ⟨c', some d⟩) : F_Console_answer [.ref n, T] (C c) = .ok (.str v) ⟨c', some d⟩ := by
  refine run_eq ?_
  unfold F_Console_answer
  rw [k_defn, k_tryU, k_sRet, methX_at (n := n) (fs := conF d q) rfl hn (con_w d q), k_cons, k_loc]
  show Ok (F_Console_worked_out [.ref n, T] (C c)) _ _
  rw [kk h]
  show Ok (trim c.length (.str v) ⟨c', some d⟩) _ _
  rw [trim_mark _ hlt]
  exact ⟨rfl, rfl⟩
theorem try_bv (i : W) (l : Lo) (st : Sto) (D : Po4) : OkS (tryU [(cat_BadValue, sRet (eLit (.str "error BadValue"))), (cat_BadOffer, sRet (eLit (.str "error BadOffer"))), (cat_TooMany, sRet (eLit (.str "error TooMany")))] 0 i l st) D = D.rt (.str "error BadValue") st := rfl
theorem answer_bad {T : W} {i : Int} (hn : c[n]? = some (.ins 2 (conF d q))) (h : F_Console_worked_out [.ref n, T] (C c) = .exc 0 (.int i) (C c)) : F_Console_answer [.ref n, T] (C c) = .ok (.str "error BadValue") (C c) := by
  refine run_eq ?_
  unfold F_Console_answer
  rw [k_defn, k_tryU, k_sRet, methX_at (n := n) (fs := conF d q) rfl hn (con_w d q), k_cons, k_loc]
  show Ok (F_Console_worked_out [.ref n, T] (C c)) _ _
  rw [kx h]
  dsimp only
  rw [try_bv]
  dsimp only
  rw [k_trim rfl, List.take_length]
  exact ⟨rfl, rfl⟩
end
section
variable {c g : List Cell} {X : XP} {P : W → Sto → Prop} {l : Lo} {st : Sto} {s s' w : Str} {ws : List Str} {k n d q m : Nat} {T : W}
structure Con (c : List Cell) (n d q m : Nat) : Prop where
  ins : c[n]? = some (.ins 2 (conF d q))
  dct : ∃ ds, c[d]? = some (.dct ds) ∧ ds.length ≤ m
  cmd : ∃ us, c[q]? = some (.lst us) ∧ us.length ≤ m
inductive GoodT : W → Prop
  | race {nm : Str} {N : Nat} {t : Bool} {ab cu : List Nat} (h : RcOk N (iN ab) (iN cu)) : GoodT (.tup [.str "race", .str nm, raceP (some (N, t, ab, cu))])
  | bad {nm : Str} {a b e f : W} {i : Int} (h : ∀ (c : List Cell) (z : W), F_Race_init [z, a, b, e, f] (C c) = .exc 0 (.int i) (C c)) : GoodT (.tup [.str "race", .str nm, .tup [a, b, e, f]])
  | other {w : Str} {x y : W} (h : asc w) (h2 : w ≠ "race") : GoodT (.tup [.str w, x, y])
theorem dput_len (ds : List (Str × W)) (s : Str) (w : W) : (dPut ds s w).length ≤ ds.length + 1 := by
  unfold dPut
  split
  · rw [List.length_map]; omega
  · rw [List.length_append]; exact Nat.le_refl _
theorem app_q {us : List W} (h : st.c[q]? = some (.lst us)) (hl : us.length < 1000000) : fAppend (.ref q) [.str s] st = .ok .non ⟨st.c.set q (.lst (us ++ [.str s])), st.d⟩ := by
  unfold fAppend
  dsimp only
  rw [h]
  dsimp only
  rw [if_pos hl]
  rfl
theorem tailE {us : List W} (h0 : l[0]? = some (some (.ref n))) (h1 : l[1]? = some (some (.str s))) (hn : st.c[n]? = some (.ins 2 (conF d q))) (hq : st.c[q]? = some (.lst us)) (hl : us.length < 1000000) :
    Ok (eMt fAppend (eFld 2 "_commands" (eLoc 0)) (evCons (eLoc 1) evNil) l st) X P = P .non ⟨st.c.set q (.lst (us ++ [.str s])), st.d⟩ := by
  rw [k_eMt, fldA h0 hn (con_c d q)]
  have e : isL st (.ref q) = true := by
    unfold isL
    dsimp only
    rw [hq]
  rw [if_pos e, k_cons, k_loc, h1]
  dsimp only
  rw [k_nil, kk (app_q hq hl)]
theorem tail_ok {us : List W} {D : Po4} (h0 : l[0]? = some (some (.ref n))) (h1 : l[1]? = some (some (.str s))) (hn : st.c[n]? = some (.ins 2 (conF d q))) (hq : st.c[q]? = some (.lst us)) (hl : us.length < 1000000) :
    OkS (sDrop (eMt fAppend (eFld 2 "_commands" (eLoc 0)) (evCons (eLoc 1) evNil)) l st) D = D.nx l ⟨st.c.set q (.lst (us ++ [.str s])), st.d⟩ := by
  rw [k_sDrop, tailE h0 h1 hn hq hl]
theorem ne_of_cell {i j : Nat} {x y : Cell} (hi : c[i]? = some x) (hj : c[j]? = some y) (h : x ≠ y) : i ≠ j := fun e => by
  subst e
  rw [hi] at hj
  cases hj
  exact h rfl
theorem rep_ok (h : Con c n d q m) (hm : m < 900) (hT : GoodT T) :
    ∃ c' k, F_Console_repeat [.ref n, .str s, T] (C c) = .ok .non ⟨c', k⟩ ∧ (k = none ∨ k = some d) ∧ Con c' n d q (m + 1) ∧ c.length ≤ c'.length ∧ ∀ i, i ≠ d → i ≠ q → i < c.length → c'[i]? = c[i]? := by
  obtain ⟨hn, ⟨ds, hd, ld⟩, ⟨us, hq, lu⟩⟩ := h
  have nd := ne_of_cell hn hd (fun e => by cases e)
  have nq := ne_of_cell hn hq (fun e => by cases e)
  have dq := ne_of_cell hd hq (fun e => by cases e)
  have ltn := (List.getElem?_eq_some_iff.mp hn).1
  have ltd := (List.getElem?_eq_some_iff.mp hd).1
  have ltq := (List.getElem?_eq_some_iff.mp hq).1
  have plain : (∀ (X : XP) (P : W → Sto → Prop), OkS ((sIf (bVal (eBin wEq (eBin wIx (eLoc 2) (eLit (.int 0))) (eLit (.str "race")))) (sDrop (eMeth 2 "_answer" F_Console_answer (eLoc 0) (evCons (eLoc 2) evNil))) sNil) [some (.ref n), some (.str s), some T] (C c)) = OkS (.nx [some (.ref n), some (.str s), some T] (C c))) →
      F_Console_repeat [.ref n, .str s, T] (C c) = .ok .non ⟨c.set q (.lst (us ++ [.str s])), none⟩ := fun e => by
    refine run_eq ?_
    unfold F_Console_repeat
    rw [k_defn, k_sSeq]
    show OkS ((sIf (bVal (eBin wEq (eBin wIx (eLoc 2) (eLit (.int 0))) (eLit (.str "race")))) (sDrop (eMeth 2 "_answer" F_Console_answer (eLoc 0) (evCons (eLoc 2) evNil))) sNil) [some (.ref n), some (.str s), some T] (C c)) _
    rw [e (fun _ _ _ => False) (fun _ _ => True)]
    rw [k_nx]
    dsimp only
    rw [tail_ok (n := n) (d := d) (q := q) (us := us) rfl rfl hn hq (by omega)]
    dsimp only
    rw [k_trim rfl]
    refine ⟨rfl, ?_⟩
    show (⟨(c.set q _).take c.length, none⟩ : Sto) = _
    rw [List.take_of_length_le (by rw [List.length_set]; exact Nat.le_refl _)]
  have setC : Con (c.set q (.lst (us ++ [.str s]))) n d q (m + 1) := ⟨by rw [List.getElem?_set_ne (Ne.symm nq)]; exact hn, ⟨ds, by rw [List.getElem?_set_ne (Ne.symm dq)]; exact hd, by omega⟩, ⟨_, List.getElem?_set_self ltq, by rw [List.length_append]; show us.length + 1 ≤ _; omega⟩⟩
  have fin : F_Console_repeat [.ref n, .str s, T] (C c) = .ok .non ⟨c.set q (.lst (us ++ [.str s])), none⟩ → ∃ c' k, F_Console_repeat [.ref n, .str s, T] (C c) = .ok .non ⟨c', k⟩ ∧ (k = none ∨ k = some d) ∧ Con c' n d q (m + 1) ∧ c.length ≤ c'.length ∧ ∀ i, i ≠ d → i ≠ q → i < c.length → c'[i]? = c[i]? := fun e =>
    ⟨_, _, e, .inl rfl, setC, by rw [List.length_set]; exact Nat.le_refl _, fun i _ h2 _ => by rw [List.getElem?_set_ne (Ne.symm h2)]⟩
  have ix0 : ∀ {a b e : W} (st : Sto) (X : XP) (P : W → Sto → Prop), Ok (wIx (.tup [a, b, e]) (.int 0) st) X P = P a st := fun st X P => v_ix (ws := [_, _, _]) rfl rfl
  have q1 := fun st => weq_str race_asc race_asc st
  cases hT with
  | @race nm N t ab cu hr =>
    have wo := worked_race (s := nm) (t := t) hn hd (by omega) hr
    have an := answer_ok hn ltd wo
    obtain ⟨c1, hc1⟩ : ∃ c1, c1 = c.set d (.dct (dPut ds nm (.ref c.length))) ++ raceG N t (iN ab) (iN cu) :: [] := ⟨_, rfl⟩
    rw [← hc1] at an
    have old : ∀ i, i ≠ d → i < c.length → c1[i]? = c[i]? := fun i h1 h2 => by
      rw [hc1, List.getElem?_append_left (by rw [List.length_set]; exact h2), List.getElem?_set_ne (Ne.symm h1)]
    have hn1 := (old n nd ltn).trans hn
    have hq1 := (old q (Ne.symm dq) ltq).trans hq
    have hd1 : c1[d]? = some (.dct (dPut ds nm (.ref c.length))) := by
      rw [hc1, List.getElem?_append_left (by rw [List.length_set]; exact ltd), List.getElem?_set_self ltd]
    have l1 : c.length < c1.length := by rw [hc1, List.length_append, List.length_set]; show c.length < c.length + 1; omega
    have q1 := q1 (C c)
    rw [decide_eq_true rfl] at q1
    refine ⟨c1.set q (.lst (us ++ [.str s])), some d, ?_, .inr rfl, ⟨by rw [List.getElem?_set_ne (Ne.symm nq)]; exact hn1, ⟨_, by rw [List.getElem?_set_ne (Ne.symm dq)]; exact hd1, ?_⟩, ⟨_, List.getElem?_set_self (by omega), by rw [List.length_append]; show us.length + 1 ≤ _; omega⟩⟩, by rw [List.length_set]; omega, fun i h1 h2 h3 => by rw [List.getElem?_set_ne (Ne.symm h2)]; exact old i h1 h3⟩
    · refine run_eq ?_
      unfold F_Console_repeat
      exists ix0, kk q1
      rw [meth_at (n := n) (fs := conF d q) rfl hn (con_a d q)]
      rw [k_cons, k_loc]
      show Ok (F_Console_answer [.ref n, _] (C c)) _ _
      rw [kk an, tailE (st := ⟨c1, some d⟩) (n := n) (s := s) (d := d) (q := q) (us := us) rfl rfl hn1 hq1 (by omega)]
      show Ok (trim c.length .non ⟨c1.set q (.lst (us ++ [.str s])), some d⟩) _ _
      rw [trim_mark _ ltd]
      exact ⟨rfl, rfl⟩
    · have := dput_len ds nm (.ref c.length); omega
  | @bad nm a b e f i hB =>
    have wo := worked_bad (c := c) (n := n) (s := nm) hB
    have an := answer_bad hn wo
    have q1 := q1 (C c)
    rw [decide_eq_true rfl] at q1
    refine fin (plain fun X P => ?_)
    funext D
    exists ix0, kk q1
    rw [meth_at (n := n) (fs := conF d q) rfl hn (con_a d q), k_cons, k_loc]
    show Ok (F_Console_answer [.ref n, _] (C c)) _ _ = _
    rw [kk an]
  | @other w x y h1 h2 =>
    have q2 := weq_str h1 race_asc (C c)
    rw [decide_eq_false h2] at q2
    refine fin (plain fun X P => ?_)
    funext D
    exists ix0, kk q2
end
section
variable {c g : List Cell} {X : XP} {P : W → Sto → Prop} {l : Lo} {st : Sto} {s s' w : Str} {ws : List Str} {k n d q m : Nat} {T : W}
theorem fldw_at {j i : Nat} {f : Str} {e : Ev} {v : W} {st1 : Sto} {fs : List (Str × W)} {D : Po4} (he : e l st = .ok v st1) (h0 : l[i]? = some (some (.ref n))) (hn : st1.c[n]? = some (.ins j fs)) (hl : fs.length < 1000) :
    OkS (sFldW j f (eLoc i) e l st) D = D.nx l (st1.put n (.ins j (putW f v fs)) (W.low n v)) := by
  unfold sFldW
  rw [he]
  show OkS (xs (eLoc i l st1) l _) D = _
  rw [k_xs, k_loc, h0]
  dsimp only
  rw [hn]
  dsimp only
  rw [if_pos ⟨rfl, hl⟩, k_nx]
theorem set_end {x y : Cell} : (c ++ x :: g).set c.length y = c ++ y :: g := by
  rw [List.set_append_right _ _ (Nat.le_refl _), Nat.sub_self]; rfl
theorem con_init : F_Console_init [.ref c.length] (C (c ++ .ins 2 [] :: [])) = .ok .non ⟨c ++ .ins 2 (conF (c.length + 1) (c.length + 2)) :: .dct [] :: .lst [] :: [], some c.length⟩ := by
  have l1 : (c ++ Cell.ins 2 [] :: []).length = c.length + 1 := by rw [List.length_append]; rfl
  have g1 : ∀ {x : Cell} {g : List Cell}, (c ++ x :: g)[c.length]? = some x := c_get
  have e1 : ∀ l, eDNew l (C (c ++ .ins 2 [] :: [])) = .ok (.ref (c.length + 1)) (C (c ++ .ins 2 [] :: .dct [] :: [])) := fun l => by
    show Res.ok (W.ref (c ++ Cell.ins 2 [] :: []).length) (C ((c ++ Cell.ins 2 [] :: []) ++ [Cell.dct []])) = _
    rw [l1, List.append_assoc]; rfl
  obtain ⟨f1, hf1⟩ : ∃ f1, f1 = putW "_races" (.ref (c.length + 1)) [] := ⟨_, rfl⟩
  have e2 : ∀ l, eLst evNil l ⟨c ++ .ins 2 f1 :: .dct [] :: [], some c.length⟩ = .ok (.ref (c.length + 2)) ⟨c ++ .ins 2 f1 :: .dct [] :: .lst [] :: [], some c.length⟩ := fun l => by
    have l2 : (c ++ Cell.ins 2 f1 :: Cell.dct [] :: []).length = c.length + 2 := by rw [List.length_append]; rfl
    show Res.ok (W.ref (c ++ Cell.ins 2 f1 :: Cell.dct [] :: []).length) (⟨(c ++ Cell.ins 2 f1 :: Cell.dct [] :: []) ++ [Cell.lst []], some c.length⟩ : Sto) = _
    rw [l2, List.append_assoc]; rfl
  have p1 : (C (c ++ .ins 2 [] :: .dct [] :: [])).put c.length (.ins 2 (putW "_races" (.ref (c.length + 1)) [])) (W.low c.length (.ref (c.length + 1))) = ⟨c ++ .ins 2 f1 :: .dct [] :: [], some c.length⟩ := by
    show (⟨(c ++ Cell.ins 2 [] :: Cell.dct [] :: []).set c.length (.ins 2 (putW "_races" (.ref (c.length + 1)) [])), mark none c.length (decide (c.length + 1 < c.length))⟩ : Sto) = _
    rw [set_end, decide_eq_false (by omega), ← hf1]; rfl
  have p2 : (⟨c ++ .ins 2 f1 :: .dct [] :: .lst [] :: [], some c.length⟩ : Sto).put c.length (.ins 2 (putW "_commands" (.ref (c.length + 2)) f1)) (W.low c.length (.ref (c.length + 2))) = ⟨c ++ .ins 2 (conF (c.length + 1) (c.length + 2)) :: .dct [] :: .lst [] :: [], some c.length⟩ := by
    show (⟨(c ++ Cell.ins 2 f1 :: Cell.dct [] :: Cell.lst [] :: []).set c.length (.ins 2 (putW "_commands" (.ref (c.length + 2)) f1)), mark (some c.length) c.length (decide (c.length + 2 < c.length))⟩ : Sto) = _
    rw [set_end, decide_eq_false (by omega), hf1]
    show (⟨c ++ .ins 2 (conF (c.length + 1) (c.length + 2)) :: .dct [] :: .lst [] :: [], some (min c.length c.length)⟩ : Sto) = _
    rw [Nat.min_self]
  refine run_eq ?_
  unfold F_Console_init
  rw [k_defn, k_sSeq, fldw_at (n := c.length) (fs := []) (e1 _) rfl g1 (by decide)]
  rw [p1]
  dsimp only
  rw [fldw_at (n := c.length) (fs := f1) (e2 _) rfl g1 (by rw [hf1]; show 1 < 1000; omega), p2]
  dsimp only
  rw [l1, trim_mark _ (by omega)]
  exact ⟨rfl, rfl⟩
theorem cut_init {α : Type} (xs : List α) (x : α) : cutW (xs ++ [x]) none (some (-1)) = xs := by
  unfold cutW
  have e : HT.sIx (xs ++ [x]).length (xs ++ [x]).length (some (-1)) = xs.length := by
    rw [List.length_append]
    show HT.sIx (xs.length + 1) (xs.length + 1) (some (-1)) = _
    show (if (-1 : Int) < 0 then (-1 + ((xs.length + 1 : Nat) : Int)).toNat else min (-1 : Int).toNat (xs.length + 1)) = _
    rw [if_pos (by decide)]
    omega
  have e0 : HT.sIx (xs ++ [x]).length 0 none = 0 := by rw [HT.sIx_none]
  rw [e, e0, List.drop_zero, Nat.sub_zero]
  exact List.take_left
theorem last_ix {α : Type} (xs : List α) (x : α) : atI (xs ++ [x]) (-1) = some x := by
  have e : atI (xs ++ [x]) (-1) = (xs ++ [x])[xs.length]? := by
    have hl : (xs ++ [x]).length = xs.length + 1 := by rw [List.length_append]; rfl
    unfold atI ixN
    rw [if_neg (by decide), if_pos (by rw [hl]; omega)]
    show (xs ++ [x])[(((-1 : Int) + ((xs ++ [x]).length : Nat))).toNat]? = _
    congr 1
    rw [hl]
    omega
  rw [e, List.getElem?_append_right (Nat.le_refl _), Nat.sub_self]; rfl
def numbW : Nat → List Str → List W
  | _, [] => []
  | i, s :: r => .tup [.int (i : Nat), .str s] :: numbW (i + 1) r
theorem numb_get : ∀ (ls : List Str) (i j : Nat), (numbW i ls)[j]? = (ls[j]?).map fun s => .tup [.int ((i + j : Nat) : Int), .str s]
  | [], _, _ => by simp [numbW]
  | s :: r, i, 0 => by simp [numbW]
  | s :: r, i, j + 1 => by
    show (numbW (i + 1) r)[j]? = _
    rw [numb_get r (i + 1) j, show i + 1 + j = i + (j + 1) by omega]; rfl
theorem numb_len : ∀ (ls : List Str) (i : Nat), (numbW i ls).length = ls.length
  | [], _ => rfl
  | s :: r, i => by show (numbW (i + 1) r).length + 1 = r.length + 1; rw [numb_len r]
def lineOk (s : Str) : Prop := asc s ∧ s.length ≤ 900000 ∧ Txt.split s " " ≠ []
theorem task_line (h : lineOk s) : F__task [.str s] (C c) = .ok (taskV s) (C c) := by
  obtain ⟨h1, h2, h3⟩ := h
  cases e : Txt.split s " " with
  | nil => exact absurd e h3
  | cons w r => exact task_ok h1 h2 e
def badAt (ls : List Str) : Option Nat := ls.findIdx? fun s => isNonB (taskV s)
abbrev KK (c : List Cell) (lw iw : List W) : List Cell := c ++ .lst lw :: .ins 2 (conF (c.length + 2) (c.length + 3)) :: .dct [] :: .lst [] :: .lst iw :: []
theorem trim_con {c' : List Cell} {m' z : Nat} {fs : List (Str × W)} (hm : n ≤ m') (hz : n ≤ z) (h : c'[z]? = some (.ins 2 fs)) : trim n (.ref z) ⟨c', some m'⟩ = .ok (.ref z) ⟨c', some m'⟩ := by
  unfold trim
  rw [if_pos (show Sto.may ⟨c', some m'⟩ n = true from decide_eq_true hm), if_neg (show ¬ W.pure (.ref z) = true from Bool.false_ne_true)]
  dsimp only
  rw [if_pos hz, h]
theorem bad_at {ls : List Str} {i : Nat} {x : Str} (h : ∀ y ∈ ls.take i, isNonB (taskV y) = false) (hx : ls[i]? = some x) (hb : isNonB (taskV x) = true) : badAt ls = some i := by
  unfold badAt
  rw [List.findIdx?_eq_some_iff_getElem]
  obtain ⟨h1, h2⟩ := List.getElem?_eq_some_iff.mp hx
  refine ⟨h1, by rw [h2]; exact hb, fun j hj => ?_⟩
  have := h (ls[j]'(by omega)) (by rw [List.mem_take_iff_getElem]; exact ⟨j, by omega, rfl⟩)
  rw [this]; decide
theorem bad_none {ls : List Str} (h : ∀ y ∈ ls, isNonB (taskV y) = false) : badAt ls = none := by
  unfold badAt
  rw [List.findIdx?_eq_none_iff]
  exact h
theorem replay_run {ls : List Str} {last : Str} (hl : s.length ≤ 900000) (hs : Txt.split s "\n" = ls ++ [last]) (hn : ls.length < 900) (hlast : asc last) (hg : ∀ x ∈ ls, lineOk x ∧ (isNonB (taskV x) = true ∨ GoodT (taskV x))) :
    Ok (F_Console_replayed [.str s] (C c)) (fun k p st => k = 2 ∧ st = C c ∧ ((∃ i, badAt ls = some i ∧ p = .int (i : Nat)) ∨ badAt ls = none ∧ last ≠ "" ∧ p = .int (ls.length : Nat)))
      (fun v st => badAt ls = none ∧ last = "" ∧ v = .ref (c.length + 1) ∧ ∃ c', st = ⟨c', some (c.length + 1)⟩ ∧ c'.take c.length = c ∧ Con c' (c.length + 1) (c.length + 2) (c.length + 3) ls.length) := by
  obtain ⟨lw, hlw⟩ : ∃ lw, lw = (ls ++ [last]).map W.str := ⟨_, rfl⟩
  have e1 : fSplit s [.str "\n"] (C c) = .ok (.ref c.length) (C (c ++ .lst lw :: [])) := by rw [hlw, ← hs]; exact split_run "\n" (by decide) (by omega)
  have l1 : (c ++ Cell.lst lw :: []).length = c.length + 1 := by rw [List.length_append]; rfl
  have e2 : ∀ (X : XP) (P : W → Sto → Prop), Ok (F_Console_init [.ref (c.length + 1)] ((C (c ++ Cell.lst lw :: [])).push (.ins 2 []))) X P = P .non ⟨c ++ Cell.lst lw :: Cell.ins 2 (conF (c.length + 2) (c.length + 3)) :: Cell.dct [] :: Cell.lst [] :: [], some (c.length + 1)⟩ := fun X P => by
    have h := con_init (c := c ++ Cell.lst lw :: [])
    rw [l1] at h
    have hr : (c ++ Cell.lst lw :: []) ++ (Cell.ins 2 (conF (c.length + 1 + 1) (c.length + 1 + 2)) :: Cell.dct [] :: Cell.lst [] :: []) = c ++ Cell.lst lw :: Cell.ins 2 (conF (c.length + 2) (c.length + 3)) :: Cell.dct [] :: Cell.lst [] :: [] := by rw [List.append_assoc]; rfl
    rw [hr] at h
    exact kk h X P
  have gl : ∀ (c' : List Cell) (m' : Option Nat), c'[c.length]? = some (.lst lw) → seqOf ⟨c', m'⟩ (.ref c.length) = some lw := fun c' m' h => by
    show RB.getL _ _ = _
    unfold RB.getL
    dsimp only
    rw [h]
  have l4 : (c ++ Cell.lst lw :: Cell.ins 2 (conF (c.length + 2) (c.length + 3)) :: Cell.dct [] :: Cell.lst [] :: []).length = c.length + 4 := by rw [List.length_append]; rfl
  have c0 : ∀ {g : List Cell}, (c ++ Cell.lst lw :: g)[c.length]? = some (.lst lw) := c_get
  have sl : ∀ (X : XP) (P : W → Sto → Prop) (l : Lo), l[1]? = some (some (.ref c.length)) → Ok (eSl (eLoc 1) poNone (poSome (eU wNeg (eLit (.int 1)))) l ⟨c ++ Cell.lst lw :: Cell.ins 2 (conF (c.length + 2) (c.length + 3)) :: Cell.dct [] :: Cell.lst [] :: [], some (c.length + 1)⟩) X P = P (.ref (c.length + 4)) ⟨KK c lw (ls.map .str), some (c.length + 1)⟩ := fun X P l h1 => by
    have e0 : eLoc 1 l ⟨c ++ Cell.lst lw :: Cell.ins 2 (conF (c.length + 2) (c.length + 3)) :: Cell.dct [] :: Cell.lst [] :: [], some (c.length + 1)⟩ = .ok (.ref c.length) ⟨c ++ Cell.lst lw :: Cell.ins 2 (conF (c.length + 2) (c.length + 3)) :: Cell.dct [] :: Cell.lst [] :: [], some (c.length + 1)⟩ := by unfold eLoc; rw [h1]
    unfold eSl
    rw [e0]
    show Ok (wSl (.ref c.length) none (some (-1)) ⟨c ++ Cell.lst lw :: Cell.ins 2 (conF (c.length + 2) (c.length + 3)) :: Cell.dct [] :: Cell.lst [] :: [], some (c.length + 1)⟩) X P = _
    unfold wSl
    dsimp only
    rw [show RB.getL ⟨c ++ Cell.lst lw :: Cell.ins 2 (conF (c.length + 2) (c.length + 3)) :: Cell.dct [] :: Cell.lst [] :: [], some (c.length + 1)⟩ c.length = some lw from gl _ _ c0]
    have e : cutW lw none (some (-1)) = ls.map W.str := by rw [hlw, List.map_append]; exact cut_init _ _
    show Ok (.ok (.ref (c ++ Cell.lst lw :: Cell.ins 2 (conF (c.length + 2) (c.length + 3)) :: Cell.dct [] :: Cell.lst [] :: []).length) (⟨(c ++ Cell.lst lw :: Cell.ins 2 (conF (c.length + 2) (c.length + 3)) :: Cell.dct [] :: Cell.lst [] :: []) ++ [Cell.lst (cutW lw none (some (-1)))], some (c.length + 1)⟩ : Sto)) X P = _
    rw [l4, e, List.append_assoc]; rfl
  have cutC : ∀ {c' : List Cell} (p : W), c'.take c.length = c → W.pure p = true → ((⟨c', some (c.length + 1)⟩ : Sto).may c.length && W.pure p) = true ∧ (⟨c', some (c.length + 1)⟩ : Sto).cut c.length = C c := fun {c'} p h hp => by
    refine ⟨?_, ?_⟩
    · rw [hp, Bool.and_true]; exact decide_eq_true (by omega)
    · show (⟨c'.take c.length, none⟩ : Sto) = _
      rw [h]
  unfold F_Console_replayed
  exists k_isi, tnof_str, ans_str, truth, k_ms, kk e1, k_makeD, l1, e2, k_enum, sl
  rw [show srcOf ⟨KK c lw (ls.map .str), some (c.length + 1)⟩ (.ref (c.length + 4)) = some (.live (c.length + 4)) from by
    unfold srcOf
    dsimp only
    rw [show RB.getL ⟨KK c lw (ls.map .str), some (c.length + 1)⟩ (c.length + 4) = some (ls.map .str) from by
      unfold RB.getL
      dsimp only
      rw [List.getElem?_append_right (by omega), Nat.add_sub_cancel_left]; rfl]]
  dsimp only
  have lwl : lw.length = ls.length + 1 := by rw [hlw, List.length_map, List.length_append]; rfl
  refine loop_fix (numbW 0 ls) (fun i l st => ∃ o3 o4 o5 c', l = [some (.str s), some (.ref c.length), some (.ref (c.length + 1)), o3, o4, o5] ∧ st = ⟨c', some (c.length + 1)⟩ ∧ c'.take c.length = c ∧ c'[c.length]? = some (.lst lw) ∧ c'[c.length + 4]? = some (.lst (ls.map .str)) ∧ Con c' (c.length + 1) (c.length + 2) (c.length + 3) i ∧ c.length + 5 ≤ c'.length ∧ ∀ x ∈ ls.take i, isNonB (taskV x) = false)
    (fun i l st hi => ?_) (fun i w l st hw hi => ?_) (fun l st hi => ?_) 1000000 0 _ _ (by rw [numb_len]; omega) (Nat.zero_le _)
    ⟨none, none, none, KK c lw (ls.map .str), rfl, rfl, List.take_left, c_get, ?_, ⟨?_, ⟨[], ?_, Nat.le_refl _⟩, ⟨[], ?_, Nat.le_refl _⟩⟩, ?_, fun x hx => by rw [List.take_zero] at hx; cases hx⟩
  · obtain ⟨o3, o4, o5, c', rfl, rfl, ht, hL, h4, hC, hlen, hb⟩ := hi
    show (Src.at ⟨c', some (c.length + 1)⟩ i (.live (c.length + 4))).map (fun o => o.map fun w => W.tup [.int (i : Nat), w]) = _
    show ((RB.getL ⟨c', some (c.length + 1)⟩ (c.length + 4)).map (·[i]?)).map (fun o => o.map fun w => W.tup [.int (i : Nat), w]) = _
    unfold RB.getL
    dsimp only
    rw [h4]
    show some (((ls.map W.str)[i]?).map fun w => W.tup [.int (i : Nat), w]) = _
    rw [numb_get, List.getElem?_map, Nat.zero_add, Option.map_map]; rfl
  · obtain ⟨o3, o4, o5, c', rfl, rfl, ht, hL, h4, hC, hlen, hb⟩ := hi
    rw [numb_get, Nat.zero_add] at hw
    cases ex : ls[i]? with
    | none => rw [ex] at hw; cases hw
    | some x =>
      rw [ex] at hw; cases hw
      refine ⟨[some (.str s), some (.ref c.length), some (.ref (c.length + 1)), some (.int (i : Nat)), some (.str x), o5], rfl, ?_⟩
      obtain ⟨g1, g2⟩ := hg x (List.mem_of_getElem? ex)
      have tk := lift_ok (F := F__task) (mark_defn _ _) (task_line (c := c') g1) (some (c.length + 1))
      have iN1 := isN_eq (taskV x) (task_pure x)
      have ilt := (List.getElem?_eq_some_iff.mp ex).1
      cases en : isNonB (taskV x) with
      | true =>
        have ba := bad_at hb ex en
        obtain ⟨m1, m2⟩ := cutC (.int (i : Nat)) ht rfl
        exists kk tk, iN1, en
        rw [if_pos m1]
        exact ⟨m2, .inl ⟨i, ba, rfl⟩⟩
      | false =>
        have gT : GoodT (taskV x) := by
          rcases g2 with g2 | g2
          · rw [en] at g2; cases g2
          · exact g2
        obtain ⟨c2, k2, r1, r2, r3, r4, r5⟩ := rep_ok (s := x) hC (by omega) gT
        have rr : F_Console_repeat [.ref (c.length + 1), .str x, taskV x] ⟨c', some (c.length + 1)⟩ = .ok .non ⟨c2, some (c.length + 1)⟩ := by
          have mk : Mark F_Console_repeat := mark_defn _ _
          rw [mk _ ⟨c', some (c.length + 1)⟩]
          show reM (some (c.length + 1)) (F_Console_repeat [.ref (c.length + 1), .str x, taskV x] (C c')) = _
          rw [r1]
          rcases r2 with z | z
          · rw [z]; rfl
          · rw [z]
            show Res.ok W.non (⟨c2, some (min (c.length + 1) (c.length + 2))⟩ : Sto) = _
            rw [Nat.min_eq_left (by omega)]
        have inv : ∃ o3 o4 o5 c', [some (W.str s), some (W.ref c.length), some (W.ref (c.length + 1)), some (W.int (i : Nat)), some (W.str x), some (taskV x)] = [some (.str s), some (.ref c.length), some (.ref (c.length + 1)), o3, o4, o5] ∧ (⟨c2, some (c.length + 1)⟩ : Sto) = ⟨c', some (c.length + 1)⟩ ∧ c'.take c.length = c ∧ c'[c.length]? = some (.lst lw) ∧ c'[c.length + 4]? = some (.lst (ls.map .str)) ∧ Con c' (c.length + 1) (c.length + 2) (c.length + 3) (i + 1) ∧ c.length + 5 ≤ c'.length ∧ ∀ x ∈ ls.take (i + 1), isNonB (taskV x) = false := by
          refine ⟨_, _, _, c2, rfl, rfl, ?_, ?_, ?_, r3, by omega, fun y hy => ?_⟩
          · refine Eq.trans ?_ ht
            refine List.ext_getElem? fun j => ?_
            by_cases hj : j < c.length
            · rw [List.getElem?_take_of_lt hj, List.getElem?_take_of_lt hj, r5 j (by omega) (by omega) (by omega)]
            · rw [List.getElem?_eq_none (by rw [List.length_take]; omega), List.getElem?_eq_none (by rw [List.length_take]; omega)]
          · rw [r5 _ (by omega) (by omega) (by omega)]; exact hL
          · rw [r5 _ (by omega) (by omega) (by omega)]; exact h4
          · rw [List.take_add_one, ex] at hy
            rcases List.mem_append.mp hy with h | h
            · exact hb y h
            · rw [List.mem_singleton.mp h]; exact en
        exists kk tk, iN1, en
        rw [meth_at (n := c.length + 1) (fs := conF (c.length + 2) (c.length + 3)) rfl hC.ins (con_r _ _)]
        exists kk rr
        exact inv
  · obtain ⟨o3, o4, o5, c', rfl, rfl, ht, hL, h4, hC, hlen, hb⟩ := hi
    rw [numb_len] at hC hb
    rw [List.take_length] at hb
    have bn := bad_none hb
    have gs := gl c' (some (c.length + 1)) hL
    have ixl : ∀ (X : XP) (P : W → Sto → Prop), Ok (wIx (.ref c.length) (.int (-1)) ⟨c', some (c.length + 1)⟩) X P = P (.str last) ⟨c', some (c.length + 1)⟩ := fun X P => v_ix gs (by rw [hlw, List.map_append]; exact last_ix _ _)
    have ln : ∀ (X : XP) (P : W → Sto → Prop), Ok (fLen [.ref c.length] ⟨c', some (c.length + 1)⟩) X P = P (.int (ls.length + 1 : Nat)) ⟨c', some (c.length + 1)⟩ := fun X P => by
      have := v_lenL (x := .ref c.length) (X := X) (P := P) (by intro z h; cases h) gs
      rw [lwl] at this
      exact this
    have wn := wne_str hlast no_asc ⟨c', some (c.length + 1)⟩
    by_cases h0 : last = ""
    · rw [decide_eq_true h0] at wn
      have wn : wNe (.str last) (.str "") ⟨c', some (c.length + 1)⟩ = .ok (.bl false) ⟨c', some (c.length + 1)⟩ := wn
      exists ixl, kk wn
      rw [trim_con (Nat.le_succ _) (Nat.le_succ _) hC.ins]
      exact ⟨bn, h0, rfl, c', rfl, ht, hC⟩
    · rw [decide_eq_false h0] at wn
      have wn : wNe (.str last) (.str "") ⟨c', some (c.length + 1)⟩ = .ok (.bl true) ⟨c', some (c.length + 1)⟩ := wn
      have sb : ((ls.length + 1 : Nat) : Int) - 1 = (ls.length : Nat) := by omega
      obtain ⟨m1, m2⟩ := cutC (.int (ls.length : Nat)) ht rfl
      exists ixl, kk wn, ln, sb
      rw [if_pos m1]
      exact ⟨m2, .inr ⟨bn, h0⟩⟩
  · rw [List.getElem?_append_right (by omega), Nat.add_sub_cancel_left]; rfl
  · rw [List.getElem?_append_right (by omega), Nat.add_sub_cancel_left]; rfl
  · rw [List.getElem?_append_right (by omega), Nat.add_sub_cancel_left]; rfl
  · rw [List.getElem?_append_right (by omega), Nat.add_sub_cancel_left]; rfl
  · rw [List.length_append]; exact Nat.le_refl _
end
section
variable {c g : List Cell} {X : XP} {P : W → Sto → Prop} {l : Lo} {st : Sto} {s s' w : Str} {ws : List Str} {k n d q m : Nat} {T : W}
theorem ok_cases {α : Type} {r : Res α} {X : XP} {P : α → Sto → Prop} (h : Ok r X P) : (∃ v st, r = .ok v st ∧ P v st) ∨ ∃ k p st, r = .exc k p st ∧ X k p st := by
  cases r with
  | ok v st => exact .inl ⟨v, st, rfl, h⟩
  | exc k p st => exact .inr ⟨k, p, st, rfl, h⟩
  | err => exact h.elim
theorem try_syn (p : W) (l : Lo) (st : Sto) (D : Po4) : OkS (tryGo [(cat_BadValue, fun p => .tup [.str "value", p]), (cat_BadSyntax, fun p => .tup [.str "syntax", p])] 2 p l st) D = D.rt (.tup [.str "syntax", p]) st := rfl
theorem try_val (p : W) (l : Lo) (st : Sto) (D : Po4) : OkS (tryGo [(cat_BadValue, fun p => .tup [.str "value", p]), (cat_BadSyntax, fun p => .tup [.str "syntax", p])] 0 p l st) D = D.rt (.tup [.str "value", p]) st := rfl
theorem fault_syn {i : Int} (h : F_Console_replayed [T] (C c) = .exc 2 (.int i) (C c)) : F__law_replay_fault [T] (C c) = .ok (.tup [.str "syntax", .int i]) (C c) := by
  refine run_eq ?_
  unfold F__law_replay_fault
  exists k_tryM, kx h, (by decide : (1 : Nat) < 2), try_syn
  rw [c_trim0 rfl]; exact ⟨rfl, rfl⟩
theorem fault_val {i : Int} (h : F_Console_replayed [T] (C c) = .exc 0 (.int i) (C c)) : F__law_replay_fault [T] (C c) = .ok (.tup [.str "value", .int i]) (C c) := by
  refine run_eq ?_
  unfold F__law_replay_fault
  exists k_tryM, kx h, (by decide : (1 : Nat) < 2), try_val
  rw [c_trim0 rfl]; exact ⟨rfl, rfl⟩
theorem fault_none {v : W} {c' : List Cell} {m' : Nat} (hm : c.length ≤ m') (ht : c'.take c.length = c) (h : F_Console_replayed [T] (C c) = .ok v ⟨c', some m'⟩) : F__law_replay_fault [T] (C c) = .ok .non (C c) := by
  refine run_eq ?_
  have tr : ∀ (X : XP) (P : W → Sto → Prop), Ok (trim c.length .non ⟨c', some m'⟩) X P = P .non (C c) := fun X P => by
    unfold trim
    rw [if_pos (show Sto.may ⟨c', some m'⟩ c.length = true from decide_eq_true hm), if_pos (show W.pure .non = true from rfl)]
    show P .non ⟨c'.take c.length, none⟩ = _
    rw [ht]
  unfold F__law_replay_fault
  exists k_tryM, kk h, tr
theorem replay_nostr {T : W} {y : Tn} (h : ∀ st, tnOf st T = some y) (h2 : ans_str y = some false) : F_Console_replayed [T] (C c) = .exc 0 (.int 1) (C c) := by
  have may : ((C c).may c.length && W.pure (.int 1)) = true := x_may _ rfl
  have cut := x_cut (c := c)
  refine run_exc ?_
  unfold F_Console_replayed
  exists k_isi, h, h2, truth
  rw [if_pos may, cut]
def txtS (rows : List Str) : Str := Txt.join "" (rows.map fun r => r ++ "\n")
def logS (ps : List Str) : Str := Txt.join "\n" ps
theorem joinL_nil : ∀ ps : List (List Nat), TL.joinL [] ps = ps.flatten
  | [] => rfl
  | [a] => by simp [TL.joinL]
  | a :: b :: r => by
    have ih := joinL_nil (b :: r)
    show a ++ ([] ++ TL.joinL [] (b :: r)) = _
    rw [ih]; simp
theorem joinL_snoc (S x : List Nat) : ∀ ps : List (List Nat), TL.joinL S (ps ++ [x]) = (ps.map (· ++ S)).flatten ++ x
  | [] => by simp [TL.joinL]
  | [a] => by
    show a ++ (S ++ TL.joinL S [x]) = _
    simp [TL.joinL]
  | a :: b :: r => by
    have ih := joinL_snoc S x (b :: r)
    show a ++ (S ++ TL.joinL S (b :: (r ++ [x]))) = _
    rw [show TL.joinL S (b :: (r ++ [x])) = _ from ih]
    simp
theorem tl_nl : TL.tl (Str.ofString "\n") = [10] := by decide
theorem tl_txt (rows : List Str) : TL.tl (txtS rows) = (rows.map fun r => TL.tl r ++ [10]).flatten := by
  unfold txtS
  rw [tl_joinT, show TL.tl (Str.ofString "") = [] from by decide, joinL_nil, List.map_map]
  congr 1
  exact List.map_congr_left fun r _ => by
    show TL.tl (r ++ Str.ofString "\n") = _
    rw [TL.tl_append, tl_nl]
theorem tl_log (rows : List Str) (x : Str) : TL.tl (logS (rows ++ [x])) = (rows.map fun r => TL.tl r ++ [10]).flatten ++ TL.tl x := by
  unfold logS
  rw [tl_joinT, tl_nl, List.map_append, List.map_cons, List.map_nil, joinL_snoc, List.map_map]
  rfl
theorem txt_add (rows : List Str) (x : Str) : txtS rows ++ x = logS (rows ++ [x]) := TL.ext_tl (by rw [TL.tl_append, tl_txt, tl_log])
theorem txt_log (rows : List Str) : txtS rows = logS (rows ++ [Str.ofString ""]) := TL.ext_tl (by
  rw [tl_txt, tl_log, show TL.tl (Str.ofString "") = [] from by decide, List.append_nil])
theorem txt_cut {rows : List Str} {x : Str} : L2.cutS (txtS (rows ++ [x])) none (some (-1)) = logS (rows ++ [x]) := by
  have e : txtS (rows ++ [x]) = logS (rows ++ [x]) ++ (⟨#[10]⟩ : Str) := TL.ext_tl (by
    rw [tl_txt, TL.tl_append, tl_log, List.map_append, List.flatten_append]
    simp)
  rw [e, cut_sgn]
theorem log_split {ps : List Str} (h0 : ps ≠ []) (h : ∀ x ∈ ps, 10 ∉ TL.tl x) : Txt.split (logS ps) "\n" = ps := TL.split_join (y := Str.ofString "\n") (s := 10) (S := []) (by decide) (by decide +kernel) h0 h
theorem flat_len {B : Nat} : ∀ {ps : List Str}, (∀ x ∈ ps, x.length ≤ B) → ((ps.map fun r => TL.tl r ++ [10]).flatten).length ≤ ps.length * (B + 1)
  | [], _ => by simp
  | x :: r, h => by
    have ih := flat_len (ps := r) fun y hy => h y (List.mem_cons_of_mem _ hy)
    have hx := h x (by simp)
    rw [TL.len_tl] at hx
    rw [List.map_cons, List.flatten_cons, List.length_append, List.length_append]
    have e : (x :: r).length * (B + 1) = r.length * (B + 1) + (B + 1) := by rw [List.length_cons, Nat.add_mul, Nat.one_mul]
    rw [e]
    show (TL.tl x).length + 1 + _ ≤ _
    omega
theorem log_len {rows : List Str} {x : Str} {B : Nat} (h : ∀ y ∈ rows, y.length ≤ B) (hx : x.length ≤ B) : (logS (rows ++ [x])).length ≤ rows.length * (B + 1) + B := by
  rw [TL.len_tl, tl_log, List.length_append]
  have := flat_len h
  rw [TL.len_tl] at hx
  omega
theorem rep_log {ls : List Str} {last : Str} (hn : ls.length < 900) (hb : ∀ x ∈ ls, x.length ≤ 900) (hlast : asc last ∧ last.length ≤ 900 ∧ 10 ∉ TL.tl last) (hf : ∀ x ∈ ls, 10 ∉ TL.tl x) (hg : ∀ x ∈ ls, lineOk x ∧ (isNonB (taskV x) = true ∨ GoodT (taskV x))) :
    F__law_replay_fault [.str (logS (ls ++ [last]))] (C c) = .ok (match badAt ls with | some i => .tup [.str "syntax", .int (i : Nat)] | none => if last = "" then .non else .tup [.str "syntax", .int (ls.length : Nat)]) (C c) := by
  have hl : (logS (ls ++ [last])).length ≤ 900000 := by
    have := log_len (B := 900) hb hlast.2.1
    have : ls.length * 901 ≤ 899 * 901 := Nat.mul_le_mul_right _ (by omega)
    omega
  have hs := log_split (ps := ls ++ [last]) (by simp) fun x hx => by
    rcases List.mem_append.mp hx with h | h
    · exact hf x h
    · rw [List.mem_singleton.mp h]; exact hlast.2.2
  rcases ok_cases (replay_run (c := c) hl hs hn hlast.1 hg) with ⟨v, st, e, b1, b2, b3, c', e2, e3, e4⟩ | ⟨k, p, st, e, e1, e2, b⟩
  · rw [b1]
    dsimp only
    rw [if_pos b2]
    rw [e2] at e
    exact fault_none (Nat.le_succ _) e3 e
  · rw [e1, e2] at e
    rcases b with ⟨i, b1, b2⟩ | ⟨b1, b2, b3⟩
    · rw [b1]
      rw [b2] at e
      exact fault_syn e
    · rw [b1]
      dsimp only
      rw [if_neg b2]
      rw [b3] at e
      exact fault_syn e
theorem text_ok (hk : c[k]? = some (.lst (ws.map .str))) (hn : ws.length < 900) (hb : ∀ x ∈ ws, x.length ≤ 900) : F__law_text_of [.ref k] (C c) = .ok (.str (txtS ws)) (C c) := by
  refine run_eq ?_
  have gl := get_refK hk
  have push : (C c).push (.lst []) = C (c ++ .lst [] :: []) := rfl
  unfold F__law_text_of
  exists k_ms, k_vSeq, gl, push
  refine cl_ix (c := c) (s := .live k) (ws := ws.map .str) (vs := ws.map fun p => .str (p ++ Str.ofString "\n")) (fun us j => live_atK hk _ j) (by rw [List.length_map, List.length_map]) (by rw [List.length_map]; omega) (fun i w v h1 h2 => ?_) ?_
  · rw [List.getElem?_map] at h1 h2
    cases ep : ws[i]? with
    | none => rw [ep] at h1; cases h1
    | some p =>
      rw [ep] at h1 h2
      cases h1; cases h2
      have lp := hb p (List.mem_of_getElem? ep)
      refine ⟨_, fun _ => rfl, rfl, fun us => run_eq ?_⟩
      have ad : ∀ (st : Sto) (X : XP) (P : W → Sto → Prop), Ok (wAdd (.str p) (.str "\n") st) X P = P (.str (p ++ Str.ofString "\n")) st := fun st X P => by
        have lt : p.length + (Str.ofString "\n").length ≤ 1000000 := by
          have : (Str.ofString "\n").length = 1 := by decide
          omega
        unfold wAdd
        dsimp only
        rw [if_pos lt]; rfl
      exists wipeL, ad
  · have jr := join_run (s := Str.ofString "") (x := .ref c.length) (st := C (c ++ .lst (ws.map fun p => .str (p ++ Str.ofString "\n")) :: [])) (ys := ws.map fun p => p ++ Str.ofString "\n") (by rw [List.map_map]; exact c_seq) (by
      have : (Str.ofString "").length = 0 := by decide
      rw [this, Nat.mul_zero, Nat.add_zero, List.map_map]
      have : ∀ (l : List Str), (∀ x ∈ l, x.length ≤ 900) → (l.map ((·.length) ∘ fun p => p ++ Str.ofString "\n")).sum ≤ l.length * 901 := fun l => by
        induction l with
        | nil => intro _; simp
        | cons a r ih =>
          intro h
          have := ih fun x hx => h x (List.mem_cons_of_mem _ hx)
          have ha := h a (by simp)
          have e : (a ++ Str.ofString "\n").length = a.length + 1 := by rw [TL.len_tl, TL.tl_append, tl_nl, List.length_append, ← TL.len_tl]; rfl
          rw [List.map_cons, List.sum_cons, List.length_cons]
          show (a ++ Str.ofString "\n").length + _ ≤ _
          omega
      have := this ws hb
      have : ws.length * 901 ≤ 899 * 901 := Nat.mul_le_mul_right _ (by omega)
      omega)
    exists kk jr
    rw [k_trim rfl, List.take_left]
    exact ⟨rfl, rfl⟩
end
section
variable {c g : List Cell} {X : XP} {P : W → Sto → Prop} {l : Lo} {st : Sto} {s s' w : Str} {ws : List Str} {k n d q m : Nat} {T : W} {ns : List W} {row : List Int} {p : Int} {rest : List Cell}
def asks1 (o : Str) : List Str := [Str.ofString "race a 2 level absent - cuts 0,0", Str.ofString "race b 3 unlike absent 0,2 cuts 10,0,90", Str.ofString "race cup 1 level absent - cuts 5", Str.ofString "race a 5 level absent - cuts 0", Str.ofString "show " ++ o, Str.ofString "outcomes " ++ o]
def asks2 (o : Str) : List Str := [Str.ofString "sure " ++ o ++ Str.ofString " top1:0@3/2+ top1:1@1/1+", Str.ofString "surest " ++ o ++ Str.ofString " top1:0@3/2-", Str.ofString "top " ++ o ++ Str.ofString " top1:0", Str.ofString "low " ++ o ++ Str.ofString " row:0,1 top1:0@2/1+"]
def asks3 : List Str := [Str.ofString "comes 1/10 1/100 9/10,3/1", Str.ofString "least 0/1 1/10 2/1,2/1"]
def asks4 (o : Str) : List Str := [Str.ofString "comes 1/1 1/100 9/10", Str.ofString "sure " ++ o ++ Str.ofString " top9:0@3/2+", Str.ofString "least 2/20 1/100 -,18/20"]
def asksV (o : Str) : List Str := asks1 o ++ asks2 o ++ asks3 ++ asks4 o
def names3 : List Str := [Str.ofString "a", Str.ofString "b", Str.ofString "cup"]
def lineB (s : Str) : Bool := fitT s && (decide (s.length ≤ 900) && (!(Txt.split s " ").isEmpty && s.cps.toList.all fun z => decide (z ≠ 10)))
theorem lineB_ok (h : lineB s = true) : lineOk s ∧ s.length ≤ 900 ∧ 10 ∉ TL.tl s := by
  unfold lineB at h
  rw [Bool.and_eq_true, Bool.and_eq_true, Bool.and_eq_true, decide_eq_true_eq] at h
  obtain ⟨h1, h2, h3, h4⟩ := h
  obtain ⟨f1, f2⟩ := fitT_ok h1
  refine ⟨⟨f2, f1, fun e => ?_⟩, h2, fun hz => ?_⟩
  · rw [show Txt.split s (Str.ofString " ") = [] from e] at h3; cases h3
  · exact of_decide_eq_true (List.all_eq_true.mp h4 10 hz) rfl
def otherB (s : Str) : Bool := match taskV s with
  | .tup [.str w, _, _] => !decide (w = "race") && w.cps.toList.all fun z => decide (z < 128)
  | _ => false
theorem otherB_ok (h : otherB s = true) : GoodT (taskV s) := by
  unfold otherB at h
  split at h
  · rename_i w x y e
    rw [Bool.and_eq_true, Bool.not_eq_true', decide_eq_false_iff_not] at h
    rw [e]
    exact .other (fun z hz => of_decide_eq_true (List.all_eq_true.mp h.2 z hz)) h.1
  · cases h
theorem task_race {nm : Str} {r : List Str} {N : Nat} {t : Bool} {ab cu : List Nat} (hs : Txt.split s " " = Str.ofString "race" :: nm :: r) (hn : nameV nm = true) (hv : raceVs r = some (N, t, ab, cu)) : taskV s = .tup [.str "race", .str nm, raceP (some (N, t, ab, cu))] := by
  unfold taskV
  rw [show Txt.split s (Str.ofString " ") = _ from hs]
  show taskW "race" (nm :: r) = _
  unfold taskW
  rw [if_neg (by decide)]
  unfold taskN
  dsimp only
  rw [if_pos hn]
  have b : behindV "race" r = raceP (some (N, t, ab, cu)) := by
    unfold behindV
    rw [if_pos rfl, hv]
  rw [b]
  rfl
theorem race_a : GoodT (taskV (Str.ofString "race a 2 level absent - cuts 0,0")) := by
  rw [task_race (nm := "a") (r := ["2", "level", "absent", "-", "cuts", "0,0"]) (N := 2) (t := true) (ab := []) (cu := [0, 0]) (by decide +kernel) (by decide +kernel) (by decide +kernel)]
  exact .race ⟨by decide, by decide, (fun k hk => by cases hk), by decide, rfl, .inr ⟨rfl, fun k hk => by
    simp [iN] at hk; omega⟩⟩
theorem race_b : GoodT (taskV (Str.ofString "race b 3 unlike absent 0,2 cuts 10,0,90")) := by
  rw [task_race (nm := "b") (r := ["3", "unlike", "absent", "0,2", "cuts", "10,0,90"]) (N := 3) (t := false) (ab := [0, 2]) (cu := [10, 0, 90]) (by decide +kernel) (by decide +kernel) (by decide +kernel)]
  exact .race ⟨by decide, by decide, (fun k hk => by simp [iN] at hk; omega), by decide, by decide +kernel, .inr ⟨rfl, fun k hk => by
    simp [iN] at hk; omega⟩⟩
theorem race_c : GoodT (taskV (Str.ofString "race cup 1 level absent - cuts 5")) := by
  rw [task_race (nm := "cup") (r := ["1", "level", "absent", "-", "cuts", "5"]) (N := 1) (t := true) (ab := []) (cu := [5]) (by decide +kernel) (by decide +kernel) (by decide +kernel)]
  exact .race ⟨by decide, by decide, (fun k hk => by cases hk), by decide, rfl, .inr ⟨rfl, fun k hk => by
    simp [iN] at hk; omega⟩⟩
theorem race_5 : GoodT (taskV (Str.ofString "race a 5 level absent - cuts 0")) := by
  rw [task_race (nm := "a") (r := ["5", "level", "absent", "-", "cuts", "0"]) (N := 5) (t := true) (ab := []) (cu := [0]) (by decide +kernel) (by decide +kernel) (by decide +kernel)]
  exact .bad (i := 1) fun c z => LW.init_bad (n := 2) (t := true) (as := []) (cu := []) rc2 (.one rfl (by decide))
theorem asks_line : (names3.all fun o => (asksV o).all lineB) = true := by decide +kernel
theorem asks_other : (names3.all fun o => ((asksV o).drop 4).all otherB) = true := by decide +kernel
theorem asks_ok {o : Str} (ho : o ∈ names3) : ∀ x ∈ asksV o, lineB x = true ∧ GoodT (taskV x) := fun x hx => by
  refine ⟨List.all_eq_true.mp (List.all_eq_true.mp asks_line o ho) x hx, ?_⟩
  have e : asksV o = [Str.ofString "race a 2 level absent - cuts 0,0", Str.ofString "race b 3 unlike absent 0,2 cuts 10,0,90", Str.ofString "race cup 1 level absent - cuts 5", Str.ofString "race a 5 level absent - cuts 0"] ++ (asksV o).drop 4 := rfl
  rw [e] at hx
  rcases List.mem_append.mp hx with h | h
  · simp only [List.mem_cons, List.not_mem_nil, or_false] at h
    rcases h with rfl | rfl | rfl | rfl
    · exact race_a
    · exact race_b
    · exact race_c
    · exact race_5
  · exact otherB_ok (List.all_eq_true.mp (List.all_eq_true.mp asks_other o ho) x h)
def wrong1 : List Str := [Str.ofString "", Str.ofString "race", Str.ofString "race a", Str.ofString "race a 2 level absent - cuts", Str.ofString "race a 2 even absent - cuts 0,0", Str.ofString "race a 2 level absent cuts 0,0", Str.ofString "race A 2 level absent - cuts 0,0"]
def wrong2 : List Str := [Str.ofString "race a 02 level absent - cuts 0,0", Str.ofString "race a 2 level absent - cuts -"]
def wrong3 : List Str := [Str.ofString "race a 2 level absent 0, cuts 0,0", Str.ofString "show", Str.ofString "show a b", Str.ofString "outcomes", Str.ofString "sure a", Str.ofString "sure a top1:0", Str.ofString "sure a top1:0@3/2", Str.ofString "sure a top1:@3/2+", Str.ofString "sure a top1:0@3+"]
def wrong4 : List Str := [Str.ofString "sure a top1:0@3/2+ ", Str.ofString "top a", Str.ofString "top a top1:0@1/1+"]
def wrong5 : List Str := [Str.ofString "low a", Str.ofString "low a row:", Str.ofString "comes 1/10 1/100", Str.ofString "comes 1/0 1/100 1/1", Str.ofString "comes 1/10 1/100 1", Str.ofString "comes 1/10 1/100 1/1,", Str.ofString "least 1/10 1/100 -,1/0", Str.ofString "least 1 1/100 1/1"]
def wrong6 : List Str := [Str.ofString "help", Str.ofString " show a", Str.ofString "show a ", Str.ofString "show abcdefghijklm", Str.ofString "sure a  top1:0@3/2+"]
def wrong7 : List Str := [Str.ofString "sure a top1:0@10000/1+", Str.ofString "sure a top:0@3/2+", Str.ofString "comes -1/10 1/100 1/1"]
def wrongV : List Str := wrong1 ++ wrong2 ++ wrong3 ++ wrong4 ++ wrong5 ++ wrong6 ++ wrong7
theorem wrong_all : (wrongV.all fun s => lineB s && isNonB (taskV s)) = true := by decide +kernel
end
section
variable {c g : List Cell} {ns : List W} {row : List Int} {p p' : Int} {rest : List Cell} {X : XP} {P : W → Sto → Prop} {n q m k j : Nat} {D : Po4} {y z v w : W} {l : Lo} {st : Sto} {x s o : Str}
theorem firstStep {i : Nat} {es : Evs} {B : List W} (he : es l (S ns row p rest) = .ok B (S ns row p (rest ++ g))) (hB : B.length ≤ 1000) (hD : D.nx (l.set i (some (.ref ((rest ++ g).length + 3)))) (S ns row p (rest ++ g ++ Cell.lst B :: []))) : OkS (sSet (tgName i) (eLst es) l (S ns row p rest)) D := by
  rw [k_sSetN, k_lst, kk he, if_pos hB]
  exact hD
theorem addStep {i k : Nat} {es : Evs} {A B : List W} (hi : l[i]? = some (some (.ref (k + 3)))) (hk : rest[k]? = some (Cell.lst A)) (he : es l (S ns row p rest) = .ok B (S ns row p (rest ++ g))) (hA : A.length ≤ 1000) (hB : B.length ≤ 1000) (hD : D.nx (l.set i (some (.ref ((rest ++ g).length + 4)))) (S ns row p (rest ++ g ++ Cell.lst B :: [Cell.lst (A ++ B)]))) : OkS (sSet (tgName i) (eBin wAdd (eLoc i) (eLst es)) l (S ns row p rest)) D := by
  have e0 : eLoc i l (S ns row p rest) = .ok (.ref (k + 3)) (S ns row p rest) := by
    unfold eLoc; rw [hi]
  have kl : k < rest.length := (List.getElem?_eq_some_iff.mp hk).1
  have g1 : (S ns row p (rest ++ g ++ Cell.lst B :: [])).c[k + 3]? = some (Cell.lst A) := by
    show (rest ++ g ++ Cell.lst B :: [])[k]? = _
    rw [List.getElem?_append_left (by rw [List.length_append]; omega), List.getElem?_append_left kl]; exact hk
  have g2 : (S ns row p (rest ++ g ++ Cell.lst B :: [])).c[(rest ++ g).length + 3]? = some (Cell.lst B) := by
    show (rest ++ g ++ Cell.lst B :: [])[(rest ++ g).length]? = _
    rw [List.getElem?_append_right (Nat.le_refl _), Nat.sub_self]; rfl
  have ad : wAdd (.ref (k + 3)) (.ref ((rest ++ g).length + 3)) (S ns row p (rest ++ g ++ Cell.lst B :: [])) = .ok (.ref ((rest ++ g).length + 4)) (S ns row p (rest ++ g ++ Cell.lst B :: [Cell.lst (A ++ B)])) := by
    unfold wAdd
    dsimp only
    rw [g1, g2]
    dsimp only
    rw [if_pos (by omega)]
    have e1 : (S ns row p (rest ++ g ++ Cell.lst B :: [])).c.length = (rest ++ g).length + 4 := by
      show (rest ++ g ++ Cell.lst B :: []).length + 3 = _
      rw [List.length_append]; rfl
    have e2 : (S ns row p (rest ++ g ++ Cell.lst B :: [])).push (Cell.lst (A ++ B)) = S ns row p (rest ++ g ++ Cell.lst B :: [Cell.lst (A ++ B)]) := by
      show S ns row p (rest ++ g ++ Cell.lst B :: [] ++ [Cell.lst (A ++ B)]) = _
      rw [List.append_assoc]; rfl
    rw [e1, e2]
  rw [k_sSetN, k_bin, kk e0, k_lst, kk he, if_pos hB]
  show Ok (wAdd (.ref (k + 3)) (.ref ((rest ++ g).length + 3)) (S ns row p (rest ++ g ++ Cell.lst B :: []))) _ _
  rw [kk ad]
  exact hD
theorem at_map {α : Type} {F : α → W} {xs : List α} {v : Int} (h0 : 0 ≤ v) (h1 : v < (xs.length : Nat)) : ∃ a, a ∈ xs ∧ atI (xs.map F) v = some (F a) := by
  have hl : v.toNat < xs.length := by omega
  refine ⟨xs[v.toNat], List.getElem_mem _, ?_⟩
  rw [atI_in h0 (by rw [List.length_map]; exact h1), List.getElem?_map, List.getElem?_eq_getElem hl]; rfl
theorem ix_rest {A : List W} (hk : rest[k]? = some (Cell.lst A)) {v : Int} (hw : atI A v = some w) (X : XP) (P : W → Sto → Prop) : Ok (wIx (.ref (k + 3)) (.int v) (S ns row p rest)) X P = P w (S ns row p rest) := v_ix (ws := A) (by
  show RB.getL _ _ = _
  unfold RB.getL
  rw [show (S ns row p rest).c[k + 3]? = rest[k]? from rfl, hk]) hw
theorem sadds (a b : Str) (ha : a.length ≤ 5000) (hb : b.length ≤ 5000) (st : Sto) : wAdd (.str a) (.str b) st = .ok (.str (a ++ b)) st := by
  unfold wAdd; dsimp only; rw [if_pos (by omega)]
theorem loc_ok {i : Nat} (h : l[i]? = some (some w)) : eLoc i l st = .ok w st := by unfold eLoc; rw [h]
theorem bin_str {a b : Ev} {u v : Str} (h1 : a l st = .ok (.str u) st) (h2 : b l st = .ok (.str v) st) (lu : u.length ≤ 5000) (lv : v.length ≤ 5000) : eBin wAdd a b l st = .ok (.str (u ++ v)) st := by
  unfold eBin; rw [h1]; show (b l st).bind _ = _; rw [h2]; exact sadds u v lu lv st
theorem cons_ok {a : Ev} {es : Evs} {ws : List W} (h1 : a l st = .ok w st) (h2 : es l st = .ok ws st) : evCons a es l st = .ok (w :: ws) st := by
  unfold evCons; rw [h1]; show (es l st).bind _ = _; rw [h2]; rfl
theorem lit_ok (w : W) : eLit w l st = .ok w st := rfl
theorem nil_ok : evNil l st = .ok [] st := rfl
def ecs0 : Evs := (evCons (eLit (.str "a")) (evCons (eLit (.str "b")) (evCons (eLit (.str "cup")) (evNil))))
def ecs1 : Evs := (evCons (eLit (.str "race a 2 level absent - cuts 0,0")) (evCons (eLit (.str "race b 3 unlike absent 0,2 cuts 10,0,90")) (evCons (eLit (.str "race cup 1 level absent - cuts 5")) (evCons (eLit (.str "race a 5 level absent - cuts 0")) (evCons (eBin wAdd (eLit (.str "show ")) (eLoc 3)) (evCons (eBin wAdd (eLit (.str "outcomes ")) (eLoc 3)) (evNil)))))))
def ecs2 : Evs := (evCons (eBin wAdd (eBin wAdd (eLit (.str "sure ")) (eLoc 3)) (eLit (.str " top1:0@3/2+ top1:1@1/1+"))) (evCons (eBin wAdd (eBin wAdd (eLit (.str "surest ")) (eLoc 3)) (eLit (.str " top1:0@3/2-"))) (evCons (eBin wAdd (eBin wAdd (eLit (.str "top ")) (eLoc 3)) (eLit (.str " top1:0"))) (evCons (eBin wAdd (eBin wAdd (eLit (.str "low ")) (eLoc 3)) (eLit (.str " row:0,1 top1:0@2/1+"))) (evNil)))))
def ecs3 : Evs := (evCons (eLit (.str "comes 1/10 1/100 9/10,3/1")) (evCons (eLit (.str "least 0/1 1/10 2/1,2/1")) (evNil)))
def ecs4 : Evs := (evCons (eLit (.str "comes 1/1 1/100 9/10")) (evCons (eBin wAdd (eBin wAdd (eLit (.str "sure ")) (eLoc 3)) (eLit (.str " top9:0@3/2+"))) (evCons (eLit (.str "least 2/20 1/100 -,18/20")) (evNil))))
def enc0 : Evs := (evCons (eLit (.str "")) (evCons (eLit (.str "race")) (evCons (eLit (.str "race a")) (evCons (eLit (.str "race a 2 level absent - cuts")) (evCons (eLit (.str "race a 2 even absent - cuts 0,0")) (evCons (eLit (.str "race a 2 level absent cuts 0,0")) (evCons (eLit (.str "race A 2 level absent - cuts 0,0")) (evNil))))))))
def enc1 : Evs := (evCons (eLit (.str "race a 02 level absent - cuts 0,0")) (evCons (eLit (.str "race a 2 level absent - cuts -")) (evNil)))
def enc2 : Evs := (evCons (eLit (.str "race a 2 level absent 0, cuts 0,0")) (evCons (eLit (.str "show")) (evCons (eLit (.str "show a b")) (evCons (eLit (.str "outcomes")) (evCons (eLit (.str "sure a")) (evCons (eLit (.str "sure a top1:0")) (evCons (eLit (.str "sure a top1:0@3/2")) (evCons (eLit (.str "sure a top1:@3/2+")) (evCons (eLit (.str "sure a top1:0@3+")) (evNil))))))))))
def enc3 : Evs := (evCons (eLit (.str "sure a top1:0@3/2+ ")) (evCons (eLit (.str "top a")) (evCons (eLit (.str "top a top1:0@1/1+")) (evNil))))
def enc4 : Evs := (evCons (eLit (.str "low a")) (evCons (eLit (.str "low a row:")) (evCons (eLit (.str "comes 1/10 1/100")) (evCons (eLit (.str "comes 1/0 1/100 1/1")) (evCons (eLit (.str "comes 1/10 1/100 1")) (evCons (eLit (.str "comes 1/10 1/100 1/1,")) (evCons (eLit (.str "least 1/10 1/100 -,1/0")) (evCons (eLit (.str "least 1 1/100 1/1")) (evNil)))))))))
def enc5 : Evs := (evCons (eLit (.str "help")) (evCons (eLit (.str " show a")) (evCons (eLit (.str "show a ")) (evCons (eLit (.str "show abcdefghijklm")) (evCons (eLit (.str "sure a  top1:0@3/2+")) (evNil))))))
def enc6 : Evs := (evCons (eLit (.str "sure a top1:0@10000/1+")) (evCons (eLit (.str "sure a top:0@3/2+")) (evCons (eLit (.str "comes -1/10 1/100 1/1")) (evNil))))
theorem lenB (u : Str) (h : decide (u.length ≤ 5000) = true) : u.length ≤ 5000 := of_decide_eq_true h
theorem ecs0_ok : ecs0 l st = .ok (names3.map .str) st := cons_ok (lit_ok _) (cons_ok (lit_ok _) (cons_ok (lit_ok _) nil_ok))
theorem ecs1_ok (ho : o ∈ names3) (hl : l[3]? = some (some (.str o))) : ecs1 l st = .ok ((asks1 o).map .str) st := by
  have lo := loc_ok (st := st) hl
  simp only [names3, List.mem_cons, List.not_mem_nil, or_false] at ho
  unfold ecs1
  rcases ho with rfl | rfl | rfl <;> exact cons_ok (lit_ok _) (cons_ok (lit_ok _) (cons_ok (lit_ok _) (cons_ok (lit_ok _) (cons_ok (bin_str (lit_ok _) lo (lenB _ (by decide +kernel)) (lenB _ (by decide +kernel))) (cons_ok (bin_str (lit_ok _) lo (lenB _ (by decide +kernel)) (lenB _ (by decide +kernel))) (nil_ok))))))
theorem ecs2_ok (ho : o ∈ names3) (hl : l[3]? = some (some (.str o))) : ecs2 l st = .ok ((asks2 o).map .str) st := by
  have lo := loc_ok (st := st) hl
  simp only [names3, List.mem_cons, List.not_mem_nil, or_false] at ho
  unfold ecs2
  rcases ho with rfl | rfl | rfl <;> exact cons_ok (bin_str (bin_str (lit_ok _) lo (lenB _ (by decide +kernel)) (lenB _ (by decide +kernel))) (lit_ok _) (lenB _ (by decide +kernel)) (lenB _ (by decide +kernel))) (cons_ok (bin_str (bin_str (lit_ok _) lo (lenB _ (by decide +kernel)) (lenB _ (by decide +kernel))) (lit_ok _) (lenB _ (by decide +kernel)) (lenB _ (by decide +kernel))) (cons_ok (bin_str (bin_str (lit_ok _) lo (lenB _ (by decide +kernel)) (lenB _ (by decide +kernel))) (lit_ok _) (lenB _ (by decide +kernel)) (lenB _ (by decide +kernel))) (cons_ok (bin_str (bin_str (lit_ok _) lo (lenB _ (by decide +kernel)) (lenB _ (by decide +kernel))) (lit_ok _) (lenB _ (by decide +kernel)) (lenB _ (by decide +kernel))) (nil_ok))))
theorem ecs3_ok : ecs3 l st = .ok (asks3.map .str) st := by
  unfold ecs3
  exact cons_ok (lit_ok _) (cons_ok (lit_ok _) (nil_ok))
theorem ecs4_ok (ho : o ∈ names3) (hl : l[3]? = some (some (.str o))) : ecs4 l st = .ok ((asks4 o).map .str) st := by
  have lo := loc_ok (st := st) hl
  simp only [names3, List.mem_cons, List.not_mem_nil, or_false] at ho
  unfold ecs4
  rcases ho with rfl | rfl | rfl <;> exact cons_ok (lit_ok _) (cons_ok (bin_str (bin_str (lit_ok _) lo (lenB _ (by decide +kernel)) (lenB _ (by decide +kernel))) (lit_ok _) (lenB _ (by decide +kernel)) (lenB _ (by decide +kernel))) (cons_ok (lit_ok _) (nil_ok)))
theorem enc0_ok : enc0 l st = .ok (wrong1.map .str) st := by
  unfold enc0
  exact cons_ok (lit_ok _) (cons_ok (lit_ok _) (cons_ok (lit_ok _) (cons_ok (lit_ok _) (cons_ok (lit_ok _) (cons_ok (lit_ok _) (cons_ok (lit_ok _) (nil_ok)))))))
theorem enc1_ok : enc1 l st = .ok (wrong2.map .str) st := by
  unfold enc1
  exact cons_ok (lit_ok _) (cons_ok (lit_ok _) (nil_ok))
theorem enc2_ok : enc2 l st = .ok (wrong3.map .str) st := by
  unfold enc2
  exact cons_ok (lit_ok _) (cons_ok (lit_ok _) (cons_ok (lit_ok _) (cons_ok (lit_ok _) (cons_ok (lit_ok _) (cons_ok (lit_ok _) (cons_ok (lit_ok _) (cons_ok (lit_ok _) (cons_ok (lit_ok _) (nil_ok)))))))))
theorem enc3_ok : enc3 l st = .ok (wrong4.map .str) st := by
  unfold enc3
  exact cons_ok (lit_ok _) (cons_ok (lit_ok _) (cons_ok (lit_ok _) (nil_ok)))
theorem enc4_ok : enc4 l st = .ok (wrong5.map .str) st := by
  unfold enc4
  exact cons_ok (lit_ok _) (cons_ok (lit_ok _) (cons_ok (lit_ok _) (cons_ok (lit_ok _) (cons_ok (lit_ok _) (cons_ok (lit_ok _) (cons_ok (lit_ok _) (cons_ok (lit_ok _) (nil_ok))))))))
theorem enc5_ok : enc5 l st = .ok (wrong6.map .str) st := by
  unfold enc5
  exact cons_ok (lit_ok _) (cons_ok (lit_ok _) (cons_ok (lit_ok _) (cons_ok (lit_ok _) (cons_ok (lit_ok _) (nil_ok)))))
theorem enc6_ok : enc6 l st = .ok (wrong7.map .str) st := by
  unfold enc6
  exact cons_ok (lit_ok _) (cons_ok (lit_ok _) (cons_ok (lit_ok _) (nil_ok)))
def cmdT : Sx := sRet (eBin wIx (eLoc 4) (eCall (F__law_take) [] (evCons (eLoc 0) (evCons (eLoc 1) (evCons (eLit (.int 15)) (evNil))))))
theorem cmd_eq : F__law_command = defn 5 (sSeq (sSet (tgName 2) (eLst ecs0)) (sSeq (sSet (tgName 3) (eBin wIx (eLoc 2) (eCall (F__law_take) [] (evCons (eLoc 0) (evCons (eLoc 1) (evCons (eLit (.int 3)) (evNil))))))) (sSeq (sSet (tgName 4) (eLst ecs1)) (sSeq (sSet (tgName 4) (eBin wAdd (eLoc 4) (eLst ecs2))) (sSeq (sSet (tgName 4) (eBin wAdd (eLoc 4) (eLst ecs3))) (sSeq (sSet (tgName 4) (eBin wAdd (eLoc 4) (eLst ecs4))) cmdT)))))) := rfl
def nocT : Sx := sRet (eBin wIx (eLoc 2) (eCall (F__law_take) [] (evCons (eLoc 0) (evCons (eLoc 1) (evCons (eB fLen (evCons (eLoc 2) (evNil))) (evNil))))))
theorem noc_eq : F__law_no_command = defn 3 (sSeq (sSet (tgName 2) (eLst enc0)) (sSeq (sSet (tgName 2) (eBin wAdd (eLoc 2) (eLst enc1))) (sSeq (sSet (tgName 2) (eBin wAdd (eLoc 2) (eLst enc2))) (sSeq (sSet (tgName 2) (eBin wAdd (eLoc 2) (eLst enc3))) (sSeq (sSet (tgName 2) (eBin wAdd (eLoc 2) (eLst enc4))) (sSeq (sSet (tgName 2) (eBin wAdd (eLoc 2) (eLst enc5))) (sSeq (sSet (tgName 2) (eBin wAdd (eLoc 2) (eLst enc6))) nocT))))))) := rfl
theorem setG {i : Nat} {es : Evs} {B : List W} (he : es l (S ns row p (rest ++ g)) = .ok B (S ns row p (rest ++ g))) (hB : B.length ≤ 1000) (hD : ∀ g' k', (rest ++ g')[k']? = some (Cell.lst B) → D.nx (l.set i (some (.ref (k' + 3)))) (S ns row p (rest ++ g'))) : OkS (sSet (tgName i) (eLst es) l (S ns row p (rest ++ g))) D := by
  refine firstStep (rest := rest ++ g) (g := []) (by rw [List.append_nil]; exact he) hB ?_
  rw [List.append_nil, List.append_assoc]
  refine hD (g ++ Cell.lst B :: []) (rest ++ g).length ?_
  rw [← List.append_assoc]; exact c_get
theorem growG {i k : Nat} {es : Evs} {A B : List W} (hi : l[i]? = some (some (.ref (k + 3)))) (hk : (rest ++ g)[k]? = some (Cell.lst A)) (he : es l (S ns row p (rest ++ g)) = .ok B (S ns row p (rest ++ g))) (hA : A.length ≤ 1000) (hB : B.length ≤ 1000)
    (hD : ∀ g' k', (rest ++ g')[k']? = some (Cell.lst (A ++ B)) → D.nx (l.set i (some (.ref (k' + 3)))) (S ns row p (rest ++ g'))) : OkS (sSet (tgName i) (eBin wAdd (eLoc i) (eLst es)) l (S ns row p (rest ++ g))) D := by
  refine addStep (rest := rest ++ g) (g := []) hi hk (by rw [List.append_nil]; exact he) hA hB ?_
  rw [List.append_nil]
  have e : rest ++ g ++ Cell.lst B :: [Cell.lst (A ++ B)] = rest ++ (g ++ Cell.lst B :: [Cell.lst (A ++ B)]) := by rw [List.append_assoc]
  rw [e]
  refine hD (g ++ Cell.lst B :: [Cell.lst (A ++ B)]) ((rest ++ g).length + 1) ?_
  rw [← List.append_assoc, List.getElem?_append_right (by omega), Nat.add_sub_cancel_left]; rfl
theorem drawG {A : List Str} {i : Nat} (R : RowOk row) (hp : 0 ≤ p) (hat : p < 90000) (hA : 0 < A.length) (h0 : l[0]? = some (some (.ref 1))) (h1 : l[1]? = some (some (.ref 2))) (hi : l[i]? = some (some (.ref (k + 3)))) (hk : (rest ++ g)[k]? = some (Cell.lst (A.map .str))) {lim : Ev} (hl : lim l (S ns row p (rest ++ g)) = .ok (.int (A.length : Nat)) (S ns row p (rest ++ g)))
    (hP : ∀ s, s ∈ A → P (.str s) (S ns row (p + 1) (rest ++ g))) : Ok (eBin wIx (eLoc i) (eCall (F__law_take) [] (evCons (eLoc 0) (evCons (eLoc 1) (evCons lim evNil)))) l (S ns row p (rest ++ g))) X P := by
  obtain ⟨v, hv, e⟩ := takeK (ns := ns) (p := p) R hp (by omega) (rest ++ g) (lim := (A.length : Nat)) (by omega)
  obtain ⟨s, hs, hw⟩ := at_map (F := W.str) (xs := A) hv.1 hv.2
  rw [k_bin, kk (loc_ok hi), k_call, k_cons, kk (loc_ok h0), k_cons, kk (loc_ok h1), k_cons, kk hl, k_nil]
  show Ok (F__law_take [.ref 1, .ref 2, .int (A.length : Nat)] (S ns row p (rest ++ g))) _ _
  rw [e, ix_rest hk hw]
  exact hP s hs
theorem cmd_run (R : RowOk row) (hp : 0 ≤ p) (hat : p < 80000) : Ok (F__law_command [.ref 1, .ref 2] (S ns row p rest)) (fun _ _ _ => False) (fun v st => ∃ o s, o ∈ names3 ∧ s ∈ asksV o ∧ v = .str s ∧ st = S ns row (p + 2) rest) := by
  rw [cmd_eq, k_defn, k_sSeq]
  have s0 : S ns row p rest = S ns row p (rest ++ []) := by rw [List.append_nil]
  show OkS (sSet (tgName 2) (eLst ecs0) [some (.ref 1), some (.ref 2), none, none, none] (S ns row p rest)) _
  rw [s0]
  refine setG ecs0_ok (by decide) fun g1 k1 h1 => ?_
  dsimp only
  rw [k_sSeq, k_sSetN]
  refine drawG (A := names3) R hp (by omega) (by decide) rfl rfl rfl h1 (lim := eLit (.int 3)) rfl fun o ho => ?_
  dsimp only
  rw [k_sSeq]
  refine setG (ecs1_ok ho rfl) (by show 6 ≤ 1000; decide) fun g2 k2 h2 => ?_
  dsimp only
  rw [k_sSeq]
  refine growG (k := k2) rfl h2 (ecs2_ok ho rfl) (by show 6 ≤ 1000; decide) (by show 4 ≤ 1000; decide) fun g3 k3 h3 => ?_
  dsimp only
  rw [k_sSeq]
  refine growG (k := k3) rfl h3 ecs3_ok (by show 10 ≤ 1000; decide) (by show 2 ≤ 1000; decide) fun g4 k4 h4 => ?_
  dsimp only
  rw [k_sSeq]
  refine growG (k := k4) rfl h4 (ecs4_ok ho rfl) (by show 12 ≤ 1000; decide) (by show 3 ≤ 1000; decide) fun g5 k5 h5 => ?_
  dsimp only
  unfold cmdT
  rw [k_sRet]
  refine drawG (A := asksV o) R (by omega) (by omega) (by show 0 < 15; decide) rfl rfl rfl h5 (lim := eLit (.int 15)) rfl fun s hs => ?_
  dsimp only
  show Ok (trim (rest.length + 1 + 1 + 1) (.str s) (S ns row (p + 1 + 1) (rest ++ g5))) _ _
  rw [S_trim rfl]
  exact ⟨o, s, ho, hs, rfl, by rw [show p + 1 + 1 = p + 2 by omega]⟩
theorem noc_run (R : RowOk row) (hp : 0 ≤ p) (hat : p < 80000) : Ok (F__law_no_command [.ref 1, .ref 2] (S ns row p rest)) (fun _ _ _ => False) (fun v st => ∃ s, s ∈ wrongV ∧ v = .str s ∧ st = S ns row (p + 1) rest) := by
  rw [noc_eq, k_defn, k_sSeq]
  have s0 : S ns row p rest = S ns row p (rest ++ []) := by rw [List.append_nil]
  show OkS (sSet (tgName 2) (eLst enc0) [some (.ref 1), some (.ref 2), none] (S ns row p rest)) _
  rw [s0]
  refine setG enc0_ok (by decide) fun g1 k1 h1 => ?_
  dsimp only
  rw [k_sSeq]
  refine growG (k := k1) rfl h1 enc1_ok (by decide) (by decide) fun g2 k2 h2 => ?_
  dsimp only
  rw [k_sSeq]
  refine growG (k := k2) rfl h2 enc2_ok (by decide) (by decide) fun g3 k3 h3 => ?_
  dsimp only
  rw [k_sSeq]
  refine growG (k := k3) rfl h3 enc3_ok (by decide) (by decide) fun g4 k4 h4 => ?_
  dsimp only
  rw [k_sSeq]
  refine growG (k := k4) rfl h4 enc4_ok (by decide) (by decide) fun g5 k5 h5 => ?_
  dsimp only
  rw [k_sSeq]
  refine growG (k := k5) rfl h5 enc5_ok (by decide) (by decide) fun g6 k6 h6 => ?_
  dsimp only
  rw [k_sSeq]
  refine growG (k := k6) rfl h6 enc6_ok (by decide) (by decide) fun g7 k7 h7 => ?_
  dsimp only
  unfold nocT
  rw [k_sRet]
  refine drawG (A := wrongV) R hp (by omega) (by decide) rfl rfl rfl h7 (lim := eB fLen (evCons (eLoc 2) evNil)) ?_ fun s hs => ?_
  · refine run_eq ?_
    rw [k_eB, k_cons, kk (loc_ok (by rfl)), k_nil, v_lenL (ws := wrongV.map .str) (by intro z h; cases h)]
    · exact ⟨rfl, rfl⟩
    · show RB.getL _ _ = _
      unfold RB.getL
      rw [show (S ns row p (rest ++ g7)).c[k7 + 3]? = (rest ++ g7)[k7]? from rfl, h7]
      rfl
  · dsimp only
    show Ok (trim (rest.length + 1 + 1 + 1) (.str s) (S ns row (p + 1) (rest ++ g7))) _ _
    rw [S_trim rfl]
    exact ⟨s, hs, rfl, rfl⟩
end
end LW.G
namespace LW
open PySem PySem.W RB
def st0 : Sx := (sSet (tgName 1) (eCall (F__law_numbers) [] (evCons (eLoc 0) (evNil))))
def st1 : Sx := (sSet (tgName 2) (eLst (evCons (eLit (.int 0)) (evNil))))
def st2 : Sx := (sSet (tgName 3) (eComp 1000000 [6] (vRng1 (evCons (eCall (F__law_take) [] (evCons (eLoc 1) (evCons (eLoc 2) (evCons (eLit (.int 9)) (evNil))))) (evNil))) (tgName 6) (bYes) (eCall (F__law_command) [] (evCons (eLoc 1) (evCons (eLoc 2) (evNil))))))
def st3 : Sx := (sIf (bOr (bVal (eBin wNotN (eCall (F__law_replay_fault) [] (evCons (eCall (F__law_text_of) [] (evCons (eLoc 3) (evNil))) (evNil))) (eLit .non))) (bVal (eBin wNotN (eCall (F__law_replay_fault) [] (evCons (eLit (.str "")) (evNil))) (eLit .non)))) (sRet (eLit (.bl false))) (sNil))
def st4 : Sx := (sIf (bVal (eBin wNe (eCall (F__law_replay_fault) [] (evCons (eBin wIx (eLst (evCons (eLit .non) (evCons (eLit (.int 5)) (evCons (eTup (evCons (eLit (.str "a")) (evNil))) (evNil))))) (eCall (F__law_take) [] (evCons (eLoc 1) (evCons (eLoc 2) (evCons (eLit (.int 3)) (evNil)))))) (evNil))) (eTup (evCons (eLit (.str "value")) (evCons (eLit (.int 1)) (evNil)))))) (sRet (eLit (.bl false))) (sNil))
def st5 : Sx := (sSet (tgName 4) (eCall (F__law_take) [] (evCons (eLoc 1) (evCons (eLoc 2) (evCons (eBin wAdd (eB fLen (evCons (eLoc 3) (evNil))) (eLit (.int 1))) (evNil))))))
def st6 : Sx := (sSet (tgName 5) (eBin wAdd (eBin wAdd (eSl (eLoc 3) (poNone) (poSome (eLoc 4))) (eLst (evCons (eCall (F__law_no_command) [] (evCons (eLoc 1) (evCons (eLoc 2) (evNil)))) (evNil)))) (eSl (eLoc 3) (poSome (eLoc 4)) (poNone))))
def st7 : Sx := (sIf (bOr (bVal (eBin wNe (eCall (F__law_replay_fault) [] (evCons (eCall (F__law_text_of) [] (evCons (eLoc 5) (evNil))) (evNil))) (eTup (evCons (eLit (.str "syntax")) (evCons (eLoc 4) (evNil)))))) (bVal (eBin wNe (eCall (F__law_replay_fault) [] (evCons (eBin wAdd (eCall (F__law_text_of) [] (evCons (eLoc 5) (evNil))) (eLit (.str "show"))) (evNil))) (eTup (evCons (eLit (.str "syntax")) (evCons (eLoc 4) (evNil))))))) (sRet (eLit (.bl false))) (sNil))
def st8 : Sx := (sIf (bVal (eBin wEq (eB fLen (evCons (eLoc 3) (evNil))) (eLit (.int 0)))) (sRet (eBin wEq (eMeth 2 "log" F_Console_log (eCall F_Console_replayed [] (evCons (eLit (.str "")) (evNil))) (evNil)) (eLit (.str "")))) (sNil))
def st9 : Sx := (sRet (eBin wEq (eCall (F__law_replay_fault) [] (evCons (eSlT (eCall (F__law_text_of) [] (evCons (eLoc 3) (evNil))) (poNone) (poSome (eU wNeg (eLit (.int 1))))) (evNil))) (eTup (evCons (eLit (.str "syntax")) (evCons (eBin wSub (eB fLen (evCons (eLoc 3) (evNil))) (eLit (.int 1))) (evNil))))))
def tl9 : Sx := st9
def tl8 : Sx := sSeq st8 tl9
def tl7 : Sx := sSeq st7 tl8
def tl6 : Sx := sSeq st6 tl7
def tl5 : Sx := sSeq st5 tl6
def tl4 : Sx := sSeq st4 tl5
def tl3 : Sx := sSeq st3 tl4
def tl2 : Sx := sSeq st2 tl3
def tl1 : Sx := sSeq st1 tl2
def tl0 : Sx := sSeq st0 tl1
theorem law_tl : F_law = defn 7 tl0 := rfl
end LW
set_option Elab.async false
set_option linter.all false
set_option maxRecDepth 100000
set_option maxHeartbeats 4000000
namespace LW.G
open PySem PySem.W RB L2
local macro_rules | `(tactic| exists $es,*) => `(tactic| simp (config := {decide := false, implicitDefEqProofs := false, maxSteps := 1000000}) only [k_ok, k_exc, k_err, k_ite, k_iteS, k_nx, k_rt, k_loc, k_lit, k_nil, k_cons, k_tup, k_lst, k_bin, k_eB, k_eU, k_call, k_tru, k_not, k_and, k_or, k_if, k_eAnd, k_eOr, k_eNot, k_val, k_chain, k_sNil, k_sSeq, k_sSet, tgName, tgCons, tgNil, Option.bind_some, k_sDrop, k_sRet, k_sRetN, k_sIf, k_sBreak, k_sCont, k_sFor, k_sRaise, k_sTry, k_defn, k_rng1, k_comp,
  v_add, v_sub, v_mul, v_mod, v_div, v_lt, v_le, v_gt, v_ge, v_eq, v_ne, v_neg, v_int, v_min,
  List.map_cons, List.map_nil, List.length_cons, List.length_nil, List.replicate_succ, List.replicate_zero, List.cons_append, List.nil_append, List.append_nil, List.getElem?_cons_succ, List.getElem?_cons_zero, List.set_cons_succ, List.set_cons_zero,
  Nat.reduceAdd, Nat.reduceSub, Nat.zero_add, decide_eq_true_eq, Bool.not_eq_true', decide_eq_false_iff_not, Bool.true_eq_false, Bool.false_eq_true, if_true, if_false, ite_true, ite_false, ite_self, reduceIte, Nat.reduceLeDiff, true_and, and_true, not_true_eq_false, not_false_eq_true, decide_true, decide_false, Bool.not_true, Bool.not_false, $[$es:term],*])
section
variable {c g : List Cell} {ns : List W} {row : List Int} {p p' : Int} {rest : List Cell} {X : XP} {P : W → Sto → Prop} {n q m k j : Nat} {D : Po4} {y z v w : W} {l : Lo} {st : Sto} {x s o : Str} {rows : List Str}
def CmdQ (s : Str) : Prop := ∃ o, o ∈ names3 ∧ s ∈ asksV o
theorem cmdq_ok (h : CmdQ s) : lineB s = true ∧ GoodT (taskV s) := by
  obtain ⟨o, ho, hs⟩ := h
  exact asks_ok ho s hs
theorem good_non {T : W} (h : GoodT T) : isNonB T = false := by cases h <;> rfl
theorem cmd_at (R : RowOk row) (hp : 0 ≤ p) (hat : p < 80000) : ∃ s, CmdQ s ∧ F__law_command [.ref 1, .ref 2] (S ns row p rest) = .ok (.str s) (S ns row (p + 2) rest) := by
  rcases ok_cases (cmd_run (ns := ns) (rest := rest) R hp hat) with ⟨v, st, e, o, s, h1, h2, rfl, rfl⟩ | ⟨_, _, _, _, h⟩
  · exact ⟨s, ⟨o, h1, h2⟩, e⟩
  · exact h.elim
theorem noc_at (R : RowOk row) (hp : 0 ≤ p) (hat : p < 80000) : ∃ s, s ∈ wrongV ∧ F__law_no_command [.ref 1, .ref 2] (S ns row p rest) = .ok (.str s) (S ns row (p + 1) rest) := by
  rcases ok_cases (noc_run (ns := ns) (rest := rest) R hp hat) with ⟨v, st, e, s, h1, rfl, rfl⟩ | ⟨_, _, _, _, h⟩
  · exact ⟨s, h1, e⟩
  · exact h.elim
theorem wrong_ok (h : s ∈ wrongV) : lineB s = true ∧ isNonB (taskV s) = true := by
  have := List.all_eq_true.mp wrong_all s h
  rw [Bool.and_eq_true] at this
  exact this
theorem rows_line (h : ∀ x ∈ rows, CmdQ x) : ∀ x ∈ rows, lineOk x ∧ x.length ≤ 900 ∧ 10 ∉ TL.tl x := fun x hx => lineB_ok (cmdq_ok (h x hx)).1
theorem rows_bad (h : ∀ x ∈ rows, CmdQ x) : badAt rows = none := bad_none fun x hx => good_non (cmdq_ok (h x hx)).2
theorem empty_last : asc "" ∧ ("" : Str).length ≤ 900 ∧ 10 ∉ TL.tl ("" : Str) := ⟨no_asc, by decide, by decide⟩
theorem show_last : asc "show" ∧ ("show" : Str).length ≤ 900 ∧ 10 ∉ TL.tl ("show" : Str) := ⟨show_asc, by decide +kernel, by decide +kernel⟩
theorem flt_rows (h : ∀ x ∈ rows, CmdQ x) (hn : rows.length < 900) : F__law_replay_fault [.str (txtS rows)] (C c) = .ok .non (C c) := by
  rw [txt_log, rep_log (last := "") hn (fun x hx => (rows_line h x hx).2.1) empty_last (fun x hx => (rows_line h x hx).2.2) fun x hx => ⟨(rows_line h x hx).1, .inr (cmdq_ok (h x hx)).2⟩, rows_bad h]
  rfl
theorem flt_none : F__law_replay_fault [.str ""] (C c) = .ok .non (C c) := by
  have := flt_rows (rows := []) (c := c) (fun x hx => by cases hx) (by decide)
  rwa [show txtS [] = Str.ofString "" from TL.ext_tl (by rw [tl_txt]; decide)] at this
theorem cmd_ne (h : CmdQ s) : s ≠ "" := fun e => by
  have h1 := good_non (cmdq_ok h).2
  rw [e] at h1
  have h2 : isNonB (taskV (Str.ofString "")) = true := by decide +kernel
  rw [h2] at h1
  cases h1
theorem flt_cut {rs : List Str} (h : ∀ x ∈ rs ++ [s], CmdQ x) (hn : rs.length < 900) : F__law_replay_fault [.str (L2.cutS (txtS (rs ++ [s])) none (some (-1)))] (C c) = .ok (.tup [.str "syntax", .int (rs.length : Nat)]) (C c) := by
  have h1 : ∀ x ∈ rs, CmdQ x := fun x hx => h x (List.mem_append_left _ hx)
  have h2 := h s (by simp)
  obtain ⟨l1, l2, l3⟩ := lineB_ok (cmdq_ok h2).1
  rw [txt_cut, rep_log (last := s) hn (fun x hx => (rows_line h1 x hx).2.1) ⟨l1.1, l2, l3⟩ (fun x hx => (rows_line h1 x hx).2.2) fun x hx => ⟨(rows_line h1 x hx).1, .inr (cmdq_ok (h1 x hx)).2⟩, rows_bad h1]
  dsimp only
  rw [if_neg (cmd_ne h2)]
def wrongR (rows : List Str) (a : Nat) (s : Str) : List Str := rows.take a ++ [s] ++ rows.drop a
theorem wr_bad (h : ∀ x ∈ rows, CmdQ x) (hs : s ∈ wrongV) {a : Nat} (ha : a ≤ rows.length) : badAt (wrongR rows a s) = some a := by
  refine bad_at (x := s) (fun y hy => ?_) ?_ (wrong_ok hs).2
  · have e : (wrongR rows a s).take a = rows.take a := by
      unfold wrongR
      rw [List.append_assoc, List.take_append_of_le_length (by rw [List.length_take]; omega), List.take_of_length_le (by rw [List.length_take]; omega)]
    rw [e] at hy
    exact good_non (cmdq_ok (h y (List.mem_of_mem_take hy))).2
  · unfold wrongR
    rw [List.append_assoc, List.getElem?_append_right (by rw [List.length_take]; omega), List.length_take, Nat.min_eq_left ha, Nat.sub_self]; rfl
theorem wr_mem (h : ∀ x ∈ rows, CmdQ x) (hs : s ∈ wrongV) (a : Nat) : ∀ x ∈ wrongR rows a s, lineB x = true ∧ (isNonB (taskV x) = true ∨ GoodT (taskV x)) := fun x hx => by
  unfold wrongR at hx
  rcases List.mem_append.mp hx with hx | hx
  · rcases List.mem_append.mp hx with hx | hx
    · have := cmdq_ok (h x (List.mem_of_mem_take hx)); exact ⟨this.1, .inr this.2⟩
    · rw [List.mem_singleton.mp hx]; have := wrong_ok hs; exact ⟨this.1, .inl this.2⟩
  · have := cmdq_ok (h x (List.mem_of_mem_drop hx)); exact ⟨this.1, .inr this.2⟩
theorem wr_len (rows : List Str) (a : Nat) (s : Str) : (wrongR rows a s).length = rows.length + 1 := by
  unfold wrongR
  rw [List.length_append, List.length_append, List.length_take, List.length_drop]
  show min a rows.length + 1 + _ = _
  omega
theorem flt_wr (h : ∀ x ∈ rows, CmdQ x) (hs : s ∈ wrongV) (hn : rows.length < 800) {a : Nat} (ha : a ≤ rows.length) {last : Str} (hl : asc last ∧ last.length ≤ 900 ∧ 10 ∉ TL.tl last) : F__law_replay_fault [.str (logS (wrongR rows a s ++ [last]))] (C c) = .ok (.tup [.str "syntax", .int (a : Nat)]) (C c) := by
  have wm := wr_mem h hs a
  rw [rep_log (last := last) (by rw [wr_len]; omega) (fun x hx => (lineB_ok (wm x hx).1).2.1) hl (fun x hx => (lineB_ok (wm x hx).1).2.2) fun x hx => ⟨(lineB_ok (wm x hx).1).1, (wm x hx).2⟩, wr_bad h hs ha]
theorem ne_same (a : Str) (ha : asc a) (i : Int) (st : Sto) : wNe (.tup [.str a, .int i]) (.tup [.str a, .int i]) st = .ok (.bl false) st := by
  have d : datOf st (.tup [.str a, .int i]) = some (.tuple [.str a, .int i]) := by
    show (W.dats 8 [.str a, .int i]).map PyData.tuple = _
    have e : W.dats 8 [.str a, .int i] = (match W.dat 8 (.str a), some [PyData.int i] with | some d, some ds => some (d :: ds) | _, _ => none) := rfl
    rw [e, show W.dat 8 (.str a) = (if PyData.strOk a = true then some (PyData.str a) else none) from rfl, if_pos (asc_ok ha)]
    rfl
  unfold wNe
  rw [d]
  dsimp only
  rw [show PyData.eqv (.tuple [.str a, .int i]) (.tuple [.str a, .int i]) = true from by simp [PyData.eqv, PyData.eqvAll]]
  rfl
theorem syntax_asc : asc "syntax" := asc_lit _ (by decide +kernel)
theorem value_asc : asc "value" := asc_lit _ (by decide +kernel)
theorem notN (st : Sto) (X : XP) (P : W → Sto → Prop) : Ok (wNotN .non .non st) X P = P (.bl false) st := rfl
def three3 : List W := [.non, .int 5, .tup [.str "a"]]
theorem three_at {v : Int} (h0 : 0 ≤ v) (h1 : v < 3) : ∃ w, atI three3 v = some w ∧ ∀ c, F__law_replay_fault [w] (C c) = .ok (.tup [.str "value", .int 1]) (C c) := by
  have : v = 0 ∨ v = 1 ∨ v = 2 := by omega
  rcases this with rfl | rfl | rfl
  · exact ⟨.non, rfl, fun c => fault_val (replay_nostr (y := .non) (fun _ => rfl) rfl)⟩
  · exact ⟨.int 5, rfl, fun c => fault_val (replay_nostr (y := .int) (fun _ => rfl) rfl)⟩
  · exact ⟨.tup [.str "a"], rfl, fun c => fault_val (replay_nostr (y := .tup) (fun _ => rfl) rfl)⟩
def L73 (x4 x5 x6 : Option W) (k : Nat) : Lo := [some (.ref 0), some (.ref 1), some (.ref 2), some (.ref (k + 3)), x4, x5, x6]
theorem st2_ok (R : RowOk row) (hp : 0 ≤ p) (hat : p < 1000) {x6 : Option W} (hD : ∀ (rows : List Str) (q : Int) (g : List Cell) (x6 : Option W), rows.length ≤ 8 → (∀ x ∈ rows, CmdQ x) → p ≤ q → q ≤ p + 100 → D.nx (L73 none none x6 rest.length) (S ns row q (rest ++ Cell.lst (rows.map .str) :: g))) :
    OkS (st2 [some (.ref 0), some (.ref 1), some (.ref 2), none, none, none, x6] (S ns row p rest)) D := by
  obtain ⟨v, hv, e1⟩ := takeK (ns := ns) (p := p) R hp (by omega) rest (lim := 9) (by decide)
  have nb : -1000000 ≤ v ∧ v ≤ 1000000 := by omega
  unfold st2
  exists e1, nb, S_len, S_push
  refine cl_draw (rest := rest) (p := p + 1) (s := .fix (upFrom 0 v.toNat)) (ws := upFrom 0 v.toNat) W.str CmdQ 2 (by decide) (fun _ _ _ _ => rfl) (by rw [up_len]; omega) (fun i w hw => ?_) (fun us q g ul hus hq1 hq2 => ?_)
  · obtain ⟨hi, rfl⟩ := up_get hw
    refine ⟨_, fun _ => rfl, fun us g q hq1 hq2 => ?_⟩
    obtain ⟨s, hs, e2⟩ := cmd_at (ns := ns) (p := q) (rest := rest ++ .lst us :: g) R (by omega) (by omega)
    refine ⟨s, q + 2, g, hs, fun k => rfl, by omega, by omega, run_eq ?_⟩
    exists wipeL, kk e2
  · rw [up_len] at ul hq2
    exact hD us q g x6 (by omega) hus (by omega) (by omega)
theorem text_at {ws : List Str} (hk : rest[k]? = some (Cell.lst (ws.map .str))) (hn : ws.length < 900) (hb : ∀ x ∈ ws, x.length ≤ 900) : F__law_text_of [.ref (k + 3)] (S ns row p rest) = .ok (.str (txtS ws)) (S ns row p rest) := text_ok (c := (S ns row p rest).c) (k := k + 3) (ws := ws) hk hn hb
theorem rows_len (h : ∀ x ∈ rows, CmdQ x) : ∀ x ∈ rows, x.length ≤ 900 := fun x hx => (rows_line h x hx).2.1
theorem st3_ok {x4 x5 x6 : Option W} (hk : rest[k]? = some (Cell.lst (rows.map .str))) (h8 : rows.length ≤ 8) (hq : ∀ x ∈ rows, CmdQ x) (hD : D.nx (L73 x4 x5 x6 k) (S ns row p rest)) : OkS (st3 (L73 x4 x5 x6 k) (S ns row p rest)) D := by
  have t1 := text_at (ns := ns) (row := row) (p := p) hk (by omega) (rows_len hq)
  have f1 : F__law_replay_fault [.str (txtS rows)] (S ns row p rest) = .ok .non (S ns row p rest) := flt_rows hq (by omega)
  have f2 : F__law_replay_fault [.str ""] (S ns row p rest) = .ok .non (S ns row p rest) := flt_none
  unfold st3 L73
  exists kk t1, kk f1, kk f2, notN
  exact hD
theorem st4_ok {x4 x5 x6 : Option W} (R : RowOk row) (hp : 0 ≤ p) (hat : p < 90000) (hD : D.nx (L73 x4 x5 x6 k) (S ns row (p + 1) (rest ++ Cell.lst three3 :: []))) : OkS (st4 (L73 x4 x5 x6 k) (S ns row p rest)) D := by
  have pu : (S ns row p rest).push (Cell.lst three3) = S ns row p (rest ++ Cell.lst three3 :: []) := rfl
  have ln : (S ns row p rest).c.length = rest.length + 3 := rfl
  obtain ⟨v, hv, e⟩ := takeK (ns := ns) (p := p) R hp (by omega) (rest ++ Cell.lst three3 :: []) (lim := 3) (by decide)
  obtain ⟨w, hw, hf⟩ := three_at hv.1 hv.2
  have ix := fun X P => ix_rest (ns := ns) (row := row) (p := p + 1) (X := X) (P := P) (k := rest.length) (rest := rest ++ Cell.lst three3 :: []) c_get hw
  have r3 : F__law_replay_fault [w] (S ns row (p + 1) (rest ++ Cell.lst three3 :: [])) = .ok (.tup [.str "value", .int 1]) (S ns row (p + 1) (rest ++ Cell.lst three3 :: [])) := hf _
  have nv := fun st => ne_same _ value_asc 1 st
  unfold three3 at pu e ix r3 hD
  unfold st4 L73
  exists (by decide : (1 : Nat) ≤ 1000), (by decide : (3 : Nat) ≤ 1000), pu, ln, e, ix, kk r3, (by decide : (2 : Nat) ≤ 1000), kk (nv _)
  exact hD
theorem len_at {ws : List W} (hk : rest[k]? = some (Cell.lst ws)) (X : XP) (P : W → Sto → Prop) : Ok (fLen [.ref (k + 3)] (S ns row p rest)) X P = P (.int (ws.length : Nat)) (S ns row p rest) := v_lenL (by intro z h; cases h) (by
  show RB.getL _ _ = _
  unfold RB.getL
  rw [show (S ns row p rest).c[k + 3]? = rest[k]? from rfl, hk])
theorem st5_ok {x4 x5 x6 : Option W} (R : RowOk row) (hp : 0 ≤ p) (hat : p < 90000) (hk : rest[k]? = some (Cell.lst (rows.map .str))) (hD : ∀ a : Nat, a ≤ rows.length → D.nx (L73 (some (.int (a : Nat))) x5 x6 k) (S ns row (p + 1) rest)) : OkS (st5 (L73 x4 x5 x6 k) (S ns row p rest)) D := by
  obtain ⟨v, hv, e⟩ := takeK (ns := ns) (p := p) R hp (by omega) rest (lim := (rows.length : Nat) + 1) (by omega)
  have ln := len_at (ns := ns) (row := row) (p := p) hk
  rw [List.length_map] at ln
  unfold st5 L73
  exists ln, e
  have := hD v.toNat (by omega)
  unfold L73 at this
  rw [Int.toNat_of_nonneg hv.1] at this
  exact this
theorem cut_to {α : Type} (xs : List α) {a : Nat} (h : a ≤ xs.length) : cutW xs none (some (a : Nat)) = xs.take a := by
  unfold cutW
  rw [HT.sIx_nat, HT.sIx_none, List.drop_zero, Nat.sub_zero, Nat.min_eq_left h]
theorem cut_from {α : Type} (xs : List α) {a : Nat} (h : a ≤ xs.length) : cutW xs (some (a : Nat)) none = xs.drop a := by
  unfold cutW
  rw [HT.sIx_nat, HT.sIx_none, Nat.min_eq_left h, ← List.length_drop, List.take_length]
theorem sl_at {ws : List W} {lo hi : Option Int} (hk : rest[k]? = some (Cell.lst ws)) (X : XP) (P : W → Sto → Prop) : Ok (wSl (.ref (k + 3)) lo hi (S ns row p rest)) X P = P (.ref (rest.length + 3)) (S ns row p (rest ++ Cell.lst (cutW ws lo hi) :: [])) := by
  unfold wSl
  dsimp only
  rw [show RB.getL (S ns row p rest) (k + 3) = some ws from by
    unfold RB.getL
    rw [show (S ns row p rest).c[k + 3]? = rest[k]? from rfl, hk]]
  rfl
theorem add_at {A B : List W} {i j : Nat} (hi : rest[i]? = some (Cell.lst A)) (hj : rest[j]? = some (Cell.lst B)) (hl : A.length + B.length ≤ 1000000) (X : XP) (P : W → Sto → Prop) : Ok (wAdd (.ref (i + 3)) (.ref (j + 3)) (S ns row p rest)) X P = P (.ref (rest.length + 3)) (S ns row p (rest ++ Cell.lst (A ++ B) :: [])) := by
  unfold wAdd
  dsimp only
  rw [show (S ns row p rest).c[i + 3]? = rest[i]? from rfl, show (S ns row p rest).c[j + 3]? = rest[j]? from rfl, hi, hj]
  dsimp only
  rw [if_pos hl]
  rfl
theorem k_slA {a b : Ev} : Ok (eSl a poNone (poSome b) l st) X P = Ok (a l st) X fun x st1 => Ok (b l st1) X fun y st2 => match y with | .int j => Ok (wSl x none (some j) st2) X P | _ => False := by
  unfold eSl poSome poNone
  simp only [k_bind, k_ok]
  congr 1; funext x st1; congr 1; funext y st2
  cases y <;> rfl
theorem k_slB {a b : Ev} : Ok (eSl a (poSome b) poNone l st) X P = Ok (a l st) X fun x st1 => Ok (b l st1) X fun y st2 => match y with | .int j => Ok (wSl x (some j) none st2) X P | _ => False := by
  unfold eSl poSome poNone
  simp only [k_bind, k_ok]
  congr 1; funext x st1; congr 1; funext y st2
  cases y <;> rfl
theorem get_old {g : List Cell} {x : Cell} (h : rest[k]? = some x) : (rest ++ g)[k]? = some x := by
  rw [List.getElem?_append_left (List.getElem?_eq_some_iff.mp h).1]; exact h
theorem st6_ok {a : Nat} {x5 x6 : Option W} (R : RowOk row) (hp : 0 ≤ p) (hat : p < 70000) (hk : rest[k]? = some (Cell.lst (rows.map .str))) (h8 : rows.length ≤ 8) (ha : a ≤ rows.length)
    (hD : ∀ s g j, s ∈ wrongV → (rest ++ g)[j]? = some (Cell.lst ((wrongR rows a s).map .str)) → D.nx (L73 (some (.int (a : Nat))) (some (.ref (j + 3))) x6 k) (S ns row (p + 1) (rest ++ g))) : OkS (st6 (L73 (some (.int (a : Nat))) x5 x6 k) (S ns row p rest)) D := by
  have ha' : a ≤ (rows.map W.str).length := by rw [List.length_map]; exact ha
  have s1 := sl_at (ns := ns) (row := row) (p := p) (lo := none) (hi := some (a : Nat)) hk
  rw [cut_to _ ha', ← List.map_take] at s1
  obtain ⟨r1, hr1⟩ : ∃ r1, r1 = rest ++ Cell.lst ((rows.take a).map W.str) :: [] := ⟨_, rfl⟩
  rw [← hr1] at s1
  obtain ⟨s, hs, e⟩ := noc_at (ns := ns) (p := p) (rest := r1) R hp (by omega)
  have pu : (S ns row (p + 1) r1).push (Cell.lst [.str s]) = S ns row (p + 1) (r1 ++ Cell.lst [.str s] :: []) := rfl
  have l1 : (S ns row (p + 1) r1).c.length = r1.length + 3 := rfl
  obtain ⟨r2, hr2⟩ : ∃ r2, r2 = r1 ++ Cell.lst [W.str s] :: [] := ⟨_, rfl⟩
  rw [← hr2] at pu
  have g1 : r2[rest.length]? = some (Cell.lst ((rows.take a).map W.str)) := by rw [hr2]; exact get_old (by rw [hr1]; exact c_get)
  have g2 : r2[r1.length]? = some (Cell.lst [W.str s]) := by rw [hr2]; exact c_get
  have a1 := add_at (ns := ns) (row := row) (p := p + 1) g1 g2 (by rw [List.length_map, List.length_take]; show min a rows.length + 1 ≤ _; omega)
  obtain ⟨r3, hr3⟩ : ∃ r3, r3 = r2 ++ Cell.lst ((rows.take a).map W.str ++ [W.str s]) :: [] := ⟨_, rfl⟩
  rw [← hr3] at a1
  have hk3 : r3[k]? = some (Cell.lst (rows.map W.str)) := by rw [hr3, hr2, hr1]; exact get_old (get_old (get_old hk))
  have s2 := sl_at (ns := ns) (row := row) (p := p + 1) (lo := some (a : Nat)) (hi := none) hk3
  rw [cut_from _ ha', ← List.map_drop] at s2
  obtain ⟨r4, hr4⟩ : ∃ r4, r4 = r3 ++ Cell.lst ((rows.drop a).map W.str) :: [] := ⟨_, rfl⟩
  rw [← hr4] at s2
  have g3 : r4[r2.length]? = some (Cell.lst ((rows.take a).map W.str ++ [W.str s])) := by rw [hr4]; exact get_old (by rw [hr3]; exact c_get)
  have g4 : r4[r3.length]? = some (Cell.lst ((rows.drop a).map W.str)) := by rw [hr4]; exact c_get
  have a2 := add_at (ns := ns) (row := row) (p := p + 1) g3 g4 (by rw [List.length_append, List.length_map, List.length_map, List.length_take, List.length_drop]; show min a rows.length + 1 + _ ≤ _; omega)
  have ew : (rows.take a).map W.str ++ [W.str s] ++ (rows.drop a).map W.str = (wrongR rows a s).map W.str := by unfold wrongR; rw [List.map_append, List.map_append]; rfl
  rw [ew] at a2
  have pre : ∃ g, r4 ++ Cell.lst ((wrongR rows a s).map W.str) :: [] = rest ++ g := ⟨_, by rw [hr4, hr3, hr2, hr1, List.append_assoc, List.append_assoc, List.append_assoc, List.append_assoc]⟩
  obtain ⟨g, hg⟩ := pre
  unfold st6 L73
  exists k_slA, s1, kk e, (by decide : (1 : Nat) ≤ 1000), l1, pu, a1, k_slB, s2, a2
  rw [hg]
  refine hD s g r4.length hs ?_
  rw [← hg]
  exact c_get
theorem st7_ok {a : Nat} {x6 : Option W} (hs : s ∈ wrongV) (hw : rest[j]? = some (Cell.lst ((wrongR rows a s).map .str))) (h8 : rows.length ≤ 8) (hq : ∀ x ∈ rows, CmdQ x) (ha : a ≤ rows.length) (hD : D.nx (L73 (some (.int (a : Nat))) (some (.ref (j + 3))) x6 k) (S ns row p rest)) :
    OkS (st7 (L73 (some (.int (a : Nat))) (some (.ref (j + 3))) x6 k) (S ns row p rest)) D := by
  have wm := wr_mem hq hs a
  have lw : ∀ x ∈ wrongR rows a s, x.length ≤ 900 := fun x hx => (lineB_ok (wm x hx).1).2.1
  have t1 := text_at (ns := ns) (row := row) (p := p) hw (by rw [wr_len]; omega) lw
  have f1 : F__law_replay_fault [.str (txtS (wrongR rows a s))] (S ns row p rest) = .ok (.tup [.str "syntax", .int (a : Nat)]) (S ns row p rest) := by
    rw [txt_log]; exact flt_wr hq hs (by omega) ha empty_last
  have f2 : F__law_replay_fault [.str (txtS (wrongR rows a s) ++ "show")] (S ns row p rest) = .ok (.tup [.str "syntax", .int (a : Nat)]) (S ns row p rest) := by
    rw [txt_add]; exact flt_wr hq hs (by omega) ha show_last
  have tl : (txtS (wrongR rows a s)).length ≤ 10000 := by
    rw [TL.len_tl, tl_txt]
    have := flat_len lw
    rw [wr_len] at this
    omega
  have ad : ∀ (st : Sto) (X : XP) (P : W → Sto → Prop), Ok (wAdd (.str (txtS (wrongR rows a s))) (.str "show") st) X P = P (.str (txtS (wrongR rows a s) ++ "show")) st := fun st X P => by
    have lt : (txtS (wrongR rows a s)).length + (Str.ofString "show").length ≤ 1000000 := by
      have : (Str.ofString "show").length = 4 := by decide +kernel
      omega
    unfold wAdd
    dsimp only
    rw [if_pos lt]; rfl
  have ns1 := fun st => ne_same _ syntax_asc (a : Nat) st
  unfold st7 L73
  exists kk t1, kk f1, (by decide : (2 : Nat) ≤ 1000), kk (ns1 _), ad, kk f2
  exact hD
end
set_option Elab.async false
set_option linter.all false
set_option maxRecDepth 100000
set_option maxHeartbeats 4000000
section
variable {c g : List Cell} {ns : List W} {row : List Int} {p p' : Int} {rest : List Cell} {X : XP} {P : W → Sto → Prop} {n q m k j d : Nat} {D : Po4} {y z v w : W} {l : Lo} {st st1 : Sto} {x s o : Str} {rows : List Str}
theorem meth_of {j : Nat} {m : Str} {F : List W → Sto → Res W} {o : Ev} {a : Evs} {fs : List (Str × W)} (ho : o l st = .ok (.ref n) st1) (hn : st1.c[n]? = some (.ins j fs)) (e : fs.lookup m = none) : Ok (eMeth j m F o a l st) X P = Ok (a l st1) X fun ws st2 => Ok (F (.ref n :: ws) st2) (fun _ _ _ => False) P := by
  unfold eMeth
  rw [ho]
  show Ok (match st1.c[n]? with | some (.ins k fs) => if k = j ∧ fs.lookup m = none then (a l st1).bind fun ws st2 => noX (F (.ref n :: ws) st2) else .err | _ => .err) X P = _
  rw [hn]
  dsimp only
  rw [if_pos ⟨rfl, e⟩, k_bind]
  congr 1; funext ws st1
  exact k_noX
theorem log_none (hn : c[n]? = some (.ins 2 (conF d q))) (hq : c[q]? = some (.lst [])) : F_Console_log [.ref n] (C c) = .ok (.str "") (C c) := by
  refine run_eq ?_
  have gl := get_refK hq
  have push : (C c).push (.lst []) = C (c ++ .lst [] :: []) := rfl
  have fl : ∀ (X : XP) (P : W → Sto → Prop), Ok (eFld 2 "_commands" (eLoc 0) [some (.ref n), none] (C c)) X P = P (.ref q) (C c) := fun X P => fldA rfl hn (con_c d q)
  unfold F_Console_log
  exists k_ms, k_vSeq, fl, gl, push
  refine cl_ix (c := c) (s := .live q) (ws := []) (vs := []) (fun us j => live_atK hq _ j) rfl (by decide) (fun i w v h1 h2 => by cases h1) ?_
  have jr := join_run (s := Str.ofString "") (x := .ref c.length) (st := C (c ++ .lst [] :: [])) (ys := []) c_seq (by decide)
  exists kk jr
  rw [k_trim rfl, List.take_left]
  exact ⟨congrArg W.str (by decide), rfl⟩
theorem st8_none {x4 x5 x6 : Option W} (hk : rest[k]? = some (Cell.lst [])) (hD : ∀ st, D.rt (.bl true) st) : OkS (st8 (L73 x4 x5 x6 k) (S ns row p rest)) D := by
  have ln := len_at (ns := ns) (row := row) (p := p) hk
  have ln : ∀ (X : XP) (P : W → Sto → Prop), Ok (fLen [.ref (k + 3)] (S ns row p rest)) X P = P (.int 0) (S ns row p rest) := ln
  obtain ⟨c0, hc0⟩ : ∃ c0, c0 = (S ns row p rest).c := ⟨_, rfl⟩
  have sc : S ns row p rest = C c0 := by rw [hc0]
  rcases ok_cases (replay_run (c := c0) (s := "") (ls := []) (last := "") (by decide) (by decide +kernel) (by decide) no_asc fun x hx => by cases hx) with ⟨v, st, e, _, _, rfl, c', rfl, ht, hC⟩ | ⟨_, _, _, _, _, _, h⟩
  · have us : c'[c0.length + 3]? = some (.lst []) := by
      obtain ⟨us, h1, h2⟩ := hC.cmd
      rw [h1, List.length_eq_zero_iff.mp (Nat.le_zero.mp h2)]
    have lg := lift_ok (F := F_Console_log) (mark_defn _ _) (log_none hC.ins us) (some (c0.length + 1))
    have ho : eCall F_Console_replayed [] (evCons (eLit (.str "")) evNil) (L73 x4 x5 x6 k) (C c0) = .ok (.ref (c0.length + 1)) ⟨c', some (c0.length + 1)⟩ := by
      show (F_Console_replayed [.str ""] (C c0)) = _
      exact e
    have me : ∀ (X : XP) (P : W → Sto → Prop), Ok (eMeth 2 "log" F_Console_log (eCall F_Console_replayed [] (evCons (eLit (.str "")) evNil)) evNil (L73 x4 x5 x6 k) (C c0)) X P = P (.str "") ⟨c', some (c0.length + 1)⟩ := fun X P => by
      rw [meth_of ho hC.ins (con_l _ _), k_nil, kk lg]
    have eq := weq_str no_asc no_asc (⟨c', some (c0.length + 1)⟩ : Sto)
    rw [decide_eq_true rfl] at eq
    rw [sc] at ln ⊢
    unfold L73 at me ⊢
    unfold st8
    exists ln, me, kk eq
    exact hD _
  · rcases h with ⟨i, h, _⟩ | ⟨_, h, _⟩
    · cases h
    · exact absurd rfl h
theorem st8_some {x4 x5 x6 : Option W} (hk : rest[k]? = some (Cell.lst (rows.map .str))) (h0 : rows ≠ []) (hD : D.nx (L73 x4 x5 x6 k) (S ns row p rest)) : OkS (st8 (L73 x4 x5 x6 k) (S ns row p rest)) D := by
  have ln := len_at (ns := ns) (row := row) (p := p) hk
  rw [List.length_map] at ln
  have l0 : ¬ (((rows.length : Nat) : Int) = 0) := fun e => h0 (List.length_eq_zero_iff.mp (by omega))
  unfold st8 L73
  exists ln, l0
  exact hD
theorem eq_same (a : Str) (ha : asc a) (i : Int) (st : Sto) : wEq (.tup [.str a, .int i]) (.tup [.str a, .int i]) st = .ok (.bl true) st := by
  have d : datOf st (.tup [.str a, .int i]) = some (.tuple [.str a, .int i]) := by
    show (W.dats 8 [.str a, .int i]).map PyData.tuple = _
    have e : W.dats 8 [.str a, .int i] = (match W.dat 8 (.str a), some [PyData.int i] with | some d, some ds => some (d :: ds) | _, _ => none) := rfl
    rw [e, show W.dat 8 (.str a) = (if PyData.strOk a = true then some (PyData.str a) else none) from rfl, if_pos (asc_ok ha)]
    rfl
  unfold wEq
  rw [d]
  dsimp only
  rw [show PyData.eqv (.tuple [.str a, .int i]) (.tuple [.str a, .int i]) = true from by simp [PyData.eqv, PyData.eqvAll]]
theorem st9_ok {x4 x5 x6 : Option W} (hk : rest[k]? = some (Cell.lst (rows.map .str))) (h8 : rows.length ≤ 8) (hq : ∀ x ∈ rows, CmdQ x) (h0 : rows ≠ []) (hD : ∀ st, D.rt (.bl true) st) : OkS (st9 (L73 x4 x5 x6 k) (S ns row p rest)) D := by
  obtain ⟨rs, x, rfl⟩ : ∃ rs x, rows = rs ++ [x] := ⟨rows.dropLast, rows.getLast h0, (List.dropLast_concat_getLast h0).symm⟩
  have rl : (rs ++ [x]).length = rs.length + 1 := by rw [List.length_append]; rfl
  have t1 := text_at (ns := ns) (row := row) (p := p) hk (by omega) (rows_len hq)
  have tl : (txtS (rs ++ [x])).length ≤ 1000000 := by
    rw [TL.len_tl, tl_txt]
    have := flat_len (rows_len hq)
    omega
  have f1 : F__law_replay_fault [.str (L2.cutS (txtS (rs ++ [x])) none (some (-1)))] (S ns row p rest) = .ok (.tup [.str "syntax", .int (rs.length : Nat)]) (S ns row p rest) := flt_cut hq (by omega)
  have ln := len_at (ns := ns) (row := row) (p := p) hk
  rw [List.length_map, rl] at ln
  have sb : ((rs.length + 1 : Nat) : Int) - 1 = (rs.length : Nat) := by omega
  have eq := fun st => eq_same _ syntax_asc (rs.length : Nat) st
  unfold st9 L73
  exists k_slTm, kk t1, v_slT tl, kk f1, ln, sb, (by decide : (2 : Nat) ≤ 1000), kk (eq _)
  exact hD _
theorem tl3_ok {x6 : Option W} (R : RowOk row) (hp : 0 ≤ p) (hat : p < 20000) (hk : rest[k]? = some (Cell.lst (rows.map .str))) (h8 : rows.length ≤ 8) (hq : ∀ x ∈ rows, CmdQ x) (hD : ∀ st, D.rt (.bl true) st) : OkS (tl3 (L73 none none x6 k) (S ns row p rest)) D := by
  unfold tl3
  rw [k_sSeq]
  refine st3_ok hk h8 hq ?_
  show OkS (tl4 _ _) D
  unfold tl4
  rw [k_sSeq]
  refine st4_ok R hp (by omega) ?_
  show OkS (tl5 _ _) D
  unfold tl5
  rw [k_sSeq]
  have hk1 := get_old (g := Cell.lst three3 :: []) hk
  refine st5_ok R (by omega) (by omega) hk1 fun a ha => ?_
  show OkS (tl6 _ _) D
  unfold tl6
  rw [k_sSeq]
  refine st6_ok R (by omega) (by omega) hk1 h8 ha fun s g j hs hw => ?_
  show OkS (tl7 _ _) D
  unfold tl7
  rw [k_sSeq]
  refine st7_ok hs hw h8 hq ha ?_
  show OkS (tl8 _ _) D
  unfold tl8
  rw [k_sSeq]
  have hk2 := get_old (g := g) hk1
  by_cases h0 : rows = []
  · subst h0
    exact st8_none (D := { D with nx := fun l1 st1 => OkS (tl9 l1 st1) D }) hk2 hD
  · refine st8_some hk2 h0 ?_
    show OkS (tl9 _ _) D
    unfold tl9
    exact st9_ok hk2 h8 hq h0 hD
theorem pure_law : Runs F_law := by
  intro zs hl hbits
  suffices h : Ok (F_law [.ref 0] ⟨[.scr (zs.map .int)], none⟩) (fun _ _ _ => False) fun a _ => a = .bl true by
    obtain ⟨a, st, e, rfl⟩ := run_ex h
    exact ⟨st, e⟩
  obtain ⟨row, R, hnum⟩ := LW.numbers_ok hl hbits
  have fin : ∀ (w : W) (st : Sto), w = .bl true → Ok (trim 1 w st) (fun _ _ _ => False) fun a x => a = W.bl true := fun w st e => by
    subst e
    have : ∃ st', trim 1 (.bl true) st = .ok (.bl true) st' := by
      unfold trim
      by_cases z : st.may 1 = true
      · rw [if_pos z]; exact ⟨_, rfl⟩
      · rw [if_neg z]; exact ⟨_, rfl⟩
    obtain ⟨st', e⟩ := this
    rw [e]; rfl
  have q1 : (Sto.mk [Cell.scr (zs.map .int), Cell.lst (row.map .int)] none).push (Cell.lst [.int 0]) = S (zs.map .int) row 0 [] := rfl
  have after := fun (D : Po4) (hD : ∀ st, D.rt (.bl true) st) => st2_ok (ns := zs.map .int) (p := 0) (rest := []) (x6 := none) (D := { D with nx := fun l1 st1 => OkS (tl3 l1 st1) D }) R (by decide) (by decide) fun rows q g x6 h8 hq h1 h2 => tl3_ok (ns := zs.map .int) (k := 0) (rest := [] ++ Cell.lst (rows.map .str) :: g) R h1 (by omega) rfl h8 hq hD
  rw [law_tl]
  unfold tl0 tl1 tl2 st0 st1
  generalize hT : tl3 = T
  rw [hT] at after
  generalize hU : st2 = U
  rw [hU] at after
  exists kk hnum, (by decide : (1 : Nat) ≤ 1000), q1
  exact after _ fun st => fin _ _ rfl
end
end LW.G
namespace LW
open PySem PySem.Spec PyProof.Rows L2 RB
theorem all_mk {P : Program} {w : World} {K : PySem.W.Frag} {h : Heap} {mg : Str → Option Value} {fa : Addr} (X : K.In h) (G : h.Ns mainGlobals mg) (hfa : mg "law" = some (.ref fa))
    {zaa zba zca zda zea zfa zga zha zia zja zka zla zma zna zoa zpa zqa zra zsa zta zua zva zwa zxa zya zza zab zbb zcb zdb zeb zfb zgb zhb zib zjb zkb zlb zmb znb zob zpb zqb zrb zsb ztb zub zvb zwb zxb zyb zzb zac zbc zcc zdc zec zfc f_law : Addr} {zgc zhc zic zjc zkc zlc zmc znc zoc zpc zqc zrc zsc ztc zuc zvc zwc zxc zyc zzc zad zbd zcd zdd zed zfd zgd zhd zid zjd zkd zld zmd znd zod zpd zqd zrd zsd ztd zud zvd zwd zxd zyd zzd zae zbe zce zde zee zfe zge zhe zie zje zke zle zme zne zoe zpe zqe zre zse zte zue zve zwe zxe zye zze zaf zbf zcf zdf zef zff zgf zhf zif zjf zkf zlf zmf znf zof zpf zqf zrf zsf ztf zuf zvf zwf zxf zyf zzf zag zbg zcg zdg zeg zfg zgg zhg zig zjg zkg zlg zmg zng zog zpg zqg zrg zsg ztg zug zvg zwg zxg zyg zzg zah zbh zch zdh zeh zfh zgh zhh zih zjh zkh zlh zmh znh zoh zph zqh zrh zsh zth zuh zvh zwh zxh zyh zzh zai zbi zci zdi zei zfi zgi zhi zii zji zki zli zmi zni zoi zpi zqi zri zsi zti zui zvi zwi zxi zyi zzi zaj zbj zcj zdj zej zfj zgj zhj zij zjj zkj zlj zmj znj zoj zpj zqj zrj zsj ztj zuj zvj zwj zxj zyj zzj zak zbk zck zdk zek zfk zgk zhk zik zjk zkk zlk zmk znk zok zpk zqk zrk zsk ztk zuk zvk zwk zxk zyk zzk zal zbl zcl zdl zel zfl zgl zhl zil : Value} {zjl zkl zll zml znl zol zpl zql zrl zsl ztl zul zvl zwl zxl zyl zzl zam zbm zcm zdm zem zfm zgm zhm zim zjm zkm zlm zmm znm zom zpm zqm zrm zsm ztm zum zvm zwm zxm zym zzm zan zbn zcn zdn zen zfn zgn zhn zin zjn zkn zln zmn znn zon zpn zqn zrn zsn ztn zun zvn zwn zxn zyn zzn zao zbo zco zdo zeo zfo zgo zho zio zjo zko zlo zmo zno : Option Addr} {zoo zpo zqo zro zso zto zuo zvo zwo zxo zyo zzo zap zbp zcp zdp zep zfp zgp zhp zip zjp zkp zlp zmp znp zop zpp zqp zrp zsp ztp zup zvp zwp zxp zyp zzp zaq zbq zcq zdq zeq : Array (Option Value)} {zfq zgq zhq ziq : Tok} {zjq zkq : Str} {zlq zmq : List Value} {znq : List Str} {zoq : Bool} {zpq : Option Bool} {zqq : Option Addr} {zrq zsq ztq zuq zvq : Option Value} {zwq zxq : Str} {zyq zzq : List Value} {zar : List Str} {zbr : Bool} {zcr : Option Bool} {zdr : Option Addr} {zer zfr zgr zhr zir : Option Value} {zjr zkr : Str} {zlr zmr : List Value} {znr : List Str} {zor : Bool} {zpr : Option Bool} {zqr : Option Addr} {zrr zsr ztr zur zvr : Option Value} {zwr zxr : Str} {zyr zzr : List Value} {zas : List Str} {zbs : Bool} {zcs : Option Bool} {zds : Option Addr} {zes zfs zgs zhs zis : Option Value} {zjs : Nat} {zks : Nat} {zls : Nat} {zms : List Value}
    (zns : PySem.W.nsIn K mainGlobals "Race" = some (some (.ref zaa)))
    (zos : PySem.W.plainGet K zaa Str.empty = true)
    (zps : PySem.W.hasDictIn K zaa = true)
    (zqs : PySem.W.plainOver K zaa = true)
    (zrs : PySem.W.findIn K (.ref zaa) "__setattr__" = some (some (.builtin "object.__setattr__")))
    (zss : PySem.W.findIn K (.ref zaa) "__class__" = some (some (.builtin "object.__class__")))
    (zts : PySem.W.mroIn K zaa (.type "object") = some true)
    (zus : PySem.W.makesIn K zaa = true)
    (zvs : PySem.W.keepIn K (.ref zaa) = true)
    (zws : PySem.W.nsIn K mainGlobals "Table" = some (some (.ref zba)))
    (zxs : PySem.W.plainGet K zba Str.empty = true)
    (zys : PySem.W.hasDictIn K zba = true)
    (zzs : PySem.W.plainOver K zba = true)
    (zat : PySem.W.findIn K (.ref zba) "__setattr__" = some (some (.builtin "object.__setattr__")))
    (zbt : PySem.W.findIn K (.ref zba) "__class__" = some (some (.builtin "object.__class__")))
    (zct : PySem.W.mroIn K zba (.type "object") = some true)
    (zdt : PySem.W.makesIn K zba = true)
    (zet : PySem.W.keepIn K (.ref zba) = true)
    (zft : PySem.W.nsIn K mainGlobals "Console" = some (some (.ref zca)))
    (zgt : PySem.W.plainGet K zca Str.empty = true)
    (zht : PySem.W.hasDictIn K zca = true)
    (zit : PySem.W.plainOver K zca = true)
    (zjt : PySem.W.findIn K (.ref zca) "__setattr__" = some (some (.builtin "object.__setattr__")))
    (zkt : PySem.W.findIn K (.ref zca) "__class__" = some (some (.builtin "object.__class__")))
    (zlt : PySem.W.mroIn K zca (.type "object") = some true)
    (zmt : PySem.W.makesIn K zca = true)
    (znt : PySem.W.keepIn K (.ref zca) = true)
    (hn : PySem.W.specialIn K (.builtin "object.__class__") "__get__" = some (some (.builtin "getset_descriptor.__get__")))
    (ht : PySem.W.takesIn K (.builtin "object.__class__") = some true)
    (z_all : PySem.W.nsIn K mainGlobals "all" = some none)
    (zot : PySem.W.nsIn K mainGlobals "bool" = some none)
    (zpt : PySem.W.nsIn K mainGlobals "enumerate" = some none)
    (z_int : PySem.W.nsIn K mainGlobals "int" = some none)
    (zqt : PySem.W.nsIn K mainGlobals "isinstance" = some none)
    (z_len : PySem.W.nsIn K mainGlobals "len" = some none)
    (zrt : PySem.W.nsIn K mainGlobals "list" = some none)
    (zst : PySem.W.nsIn K mainGlobals "range" = some none)
    (z_set : PySem.W.nsIn K mainGlobals "set" = some none)
    (ztt : PySem.W.nsIn K mainGlobals "sorted" = some none)
    (z_str : PySem.W.nsIn K mainGlobals "str" = some none)
    (zut : PySem.W.nsIn K mainGlobals "tuple" = some none)
    (z_gcd : PySem.W.nsIn K mainGlobals "gcd" = some (some (.builtin "math.gcd")))
    (zvt : PySem.W.findIn K (.ref zca) "_commands" = some none)
    (zwt : PySem.W.findIn K (.ref zca) "_races" = some none)
    (zxt : PySem.W.findIn K (.ref zaa) "_absent" = some none)
    (zyt : PySem.W.findIn K (.ref zaa) "_cuts" = some none)
    (zzt : PySem.W.findIn K (.ref zaa) "_runners" = some none)
    (zau : PySem.W.findIn K (.ref zaa) "_ties" = some none)
    (k_MOST_DIGITS : PySem.W.nsIn K mainGlobals "MOST_DIGITS" = some (some (.int 4 zfq)))
    (k_MOST_LETTERS : PySem.W.nsIn K mainGlobals "MOST_LETTERS" = some (some (.int 12 zgq)))
    (k_MOST_CUT : PySem.W.nsIn K mainGlobals "MOST_CUT" = some (some (.int 90 zhq)))
    (k_MOST_RUNNERS : PySem.W.nsIn K mainGlobals "MOST_RUNNERS" = some (some (.int 4 ziq)))
    (zbu : PySem.W.nsIn K mainGlobals "BadValue" = some (some (.ref zda)))
    (zcu : K.lookup zda = some (excClassObj zjq zkq zda zfa zlq [.ref zga, .type "Exception", .type "BaseException", .type "object"] true znq zmq zoq zpq zqq zrq zsq ztq zuq zvq "Exception.__new__"))
    (zdu : PySem.W.findIn K (.ref zda) "__setattr__" = some (some (.builtin "object.__setattr__")))
    (zeu : PySem.W.findIn K (.ref zda) "__getattribute__" = some (some (.builtin "BaseException.__getattribute__")))
    (zfu : PySem.W.findIn K (.ref zda) "__getattr__" = some none)
    (zgu : PySem.W.findIn K (.ref zda) "at" = some none)
    (zhu : PySem.W.keepIn K (.ref zda) = true)
    (ziu : PySem.W.subIn K (.ref zda) (.type "BaseException") = some true)
    (zju : PySem.W.typeIn K (.ref zda) = some (.type "type"))
    (zku : PySem.W.hasDictIn K zda = true)
    (zlu : PySem.W.findIn K (.ref zda) "__init__" = some (some (.ref zea)))
    (zmu : PySem.W.typeIn K (.ref zea) = some (.type "function"))
    (znu : K.lookup zea = some ⟨zgc, zjl, .func (PySem.W.fnOf "__init__" "BadValue.__init__" (defArgs (inClass (top 4) 0)) (defBody (inClass (top 4) 0)) (defScope (inClass (top 4) 0)) .none .none zhc zic zkl zjc zkc), zoo⟩)
    (zou : PySem.W.codeIn K zjc "BadValue.__init__" = true)
    (zpu : PySem.W.nsIn K mainGlobals "BadOffer" = some (some (.ref zha)))
    (zqu : K.lookup zha = some (excClassObj zwq zxq zha zja zyq [.ref zka, .type "Exception", .type "BaseException", .type "object"] true zar zzq zbr zcr zdr zer zfr zgr zhr zir "Exception.__new__"))
    (zru : PySem.W.findIn K (.ref zha) "__setattr__" = some (some (.builtin "object.__setattr__")))
    (zsu : PySem.W.findIn K (.ref zha) "__getattribute__" = some (some (.builtin "BaseException.__getattribute__")))
    (ztu : PySem.W.findIn K (.ref zha) "__getattr__" = some none)
    (zuu : PySem.W.findIn K (.ref zha) "at" = some none)
    (zvu : PySem.W.keepIn K (.ref zha) = true)
    (zwu : PySem.W.subIn K (.ref zha) (.type "BaseException") = some true)
    (zxu : PySem.W.typeIn K (.ref zha) = some (.type "type"))
    (zyu : PySem.W.hasDictIn K zha = true)
    (zzu : PySem.W.findIn K (.ref zha) "__init__" = some (some (.ref zia)))
    (zav : PySem.W.typeIn K (.ref zia) = some (.type "function"))
    (zbv : K.lookup zia = some ⟨zlc, zll, .func (PySem.W.fnOf "__init__" "BadOffer.__init__" (defArgs (inClass (top 5) 0)) (defBody (inClass (top 5) 0)) (defScope (inClass (top 5) 0)) .none .none zmc znc zml zoc zpc), zpo⟩)
    (zcv : PySem.W.codeIn K zoc "BadOffer.__init__" = true)
    (zdv : PySem.W.nsIn K mainGlobals "BadSyntax" = some (some (.ref zla)))
    (zev : K.lookup zla = some (excClassObj zjr zkr zla zna zlr [.ref zoa, .type "Exception", .type "BaseException", .type "object"] true znr zmr zor zpr zqr zrr zsr ztr zur zvr "Exception.__new__"))
    (zfv : PySem.W.findIn K (.ref zla) "__setattr__" = some (some (.builtin "object.__setattr__")))
    (zgv : PySem.W.findIn K (.ref zla) "__getattribute__" = some (some (.builtin "BaseException.__getattribute__")))
    (zhv : PySem.W.findIn K (.ref zla) "__getattr__" = some none)
    (ziv : PySem.W.findIn K (.ref zla) "at" = some none)
    (zjv : PySem.W.keepIn K (.ref zla) = true)
    (zkv : PySem.W.subIn K (.ref zla) (.type "BaseException") = some true)
    (zlv : PySem.W.typeIn K (.ref zla) = some (.type "type"))
    (zmv : PySem.W.hasDictIn K zla = true)
    (znv : PySem.W.findIn K (.ref zla) "__init__" = some (some (.ref zma)))
    (zov : PySem.W.typeIn K (.ref zma) = some (.type "function"))
    (zpv : K.lookup zma = some ⟨zqc, znl, .func (PySem.W.fnOf "__init__" "BadSyntax.__init__" (defArgs (inClass (top 6) 0)) (defBody (inClass (top 6) 0)) (defScope (inClass (top 6) 0)) .none .none zrc zsc zol ztc zuc), zqo⟩)
    (zqv : PySem.W.codeIn K ztc "BadSyntax.__init__" = true)
    (zrv : PySem.W.nsIn K mainGlobals "TooMany" = some (some (.ref zpa)))
    (zsv : K.lookup zpa = some (excClassObj zwr zxr zpa zra zyr [.ref zsa, .type "Exception", .type "BaseException", .type "object"] true zas zzr zbs zcs zds zes zfs zgs zhs zis "Exception.__new__"))
    (ztv : PySem.W.findIn K (.ref zpa) "__setattr__" = some (some (.builtin "object.__setattr__")))
    (zuv : PySem.W.findIn K (.ref zpa) "__getattribute__" = some (some (.builtin "BaseException.__getattribute__")))
    (zvv : PySem.W.findIn K (.ref zpa) "__getattr__" = some none)
    (zwv : PySem.W.findIn K (.ref zpa) "word" = some none)
    (zxv : PySem.W.keepIn K (.ref zpa) = true)
    (zyv : PySem.W.subIn K (.ref zpa) (.type "BaseException") = some true)
    (zzv : PySem.W.typeIn K (.ref zpa) = some (.type "type"))
    (zaw : PySem.W.hasDictIn K zpa = true)
    (zbw : PySem.W.findIn K (.ref zpa) "__init__" = some (some (.ref zqa)))
    (zcw : PySem.W.typeIn K (.ref zqa) = some (.type "function"))
    (zdw : K.lookup zqa = some ⟨zvc, zpl, .func (PySem.W.fnOf "__init__" "TooMany.__init__" (defArgs (inClass (top 7) 0)) (defBody (inClass (top 7) 0)) (defScope (inClass (top 7) 0)) .none .none zwc zxc zql zyc zzc), zro⟩)
    (zew : PySem.W.codeIn K zyc "TooMany.__init__" = true)
    (zfw : PySem.W.isClsIn K zda = true)
    (zgw : PySem.W.subIn K (.ref zda) (.ref zda) = some true)
    (zhw : PySem.W.subIn K (.ref zha) (.ref zda) = some false)
    (ziw : PySem.W.subIn K (.ref zla) (.ref zda) = some false)
    (zjw : PySem.W.subIn K (.ref zpa) (.ref zda) = some false)
    (zkw : PySem.W.isClsIn K zha = true)
    (zlw : PySem.W.subIn K (.ref zda) (.ref zha) = some false)
    (zmw : PySem.W.subIn K (.ref zha) (.ref zha) = some true)
    (znw : PySem.W.subIn K (.ref zla) (.ref zha) = some false)
    (zow : PySem.W.subIn K (.ref zpa) (.ref zha) = some false)
    (zpw : PySem.W.isClsIn K zla = true)
    (zqw : PySem.W.subIn K (.ref zda) (.ref zla) = some false)
    (zrw : PySem.W.subIn K (.ref zha) (.ref zla) = some false)
    (zsw : PySem.W.subIn K (.ref zla) (.ref zla) = some true)
    (ztw : PySem.W.subIn K (.ref zpa) (.ref zla) = some false)
    (zuw : PySem.W.isClsIn K zpa = true)
    (zvw : PySem.W.subIn K (.ref zda) (.ref zpa) = some false)
    (zww : PySem.W.subIn K (.ref zha) (.ref zpa) = some false)
    (zxw : PySem.W.subIn K (.ref zla) (.ref zpa) = some false)
    (zyw : PySem.W.subIn K (.ref zpa) (.ref zpa) = some true)
    (zzw : PySem.W.isClsIn K zaa = true)
    (zax : PySem.W.typeIn K (.ref zaa) = some (.type "type"))
    (zbx : PySem.W.subIn K (.ref zaa) (.type "int") = some false)
    (zcx : PySem.W.subIn K (.ref zaa) (.type "bool") = some false)
    (zdx : PySem.W.subIn K (.ref zaa) (.type "list") = some false)
    (zex : PySem.W.subIn K (.ref zaa) (.type "tuple") = some false)
    (zfx : PySem.W.subIn K (.ref zaa) (.type "str") = some false)
    (zgx : PySem.W.nsIn K mainGlobals "_law_numbers" = some (some (.ref zta)))
    (zhx : K.lookup zta = some ⟨zad, zrl, .func (PySem.W.fnOf "_law_numbers" "_law_numbers" (defArgs s__law_numbers) (defBody s__law_numbers) (defScope s__law_numbers) .none zbd zcd zdd zsl zed zfd), zso⟩)
    (zix : PySem.W.codeIn K zed "_law_numbers" = true)
    (zjx : PySem.W.keepIn K (.ref zta) = true)
    (zkx : PySem.W.nsIn K mainGlobals "_law_draw" = some (some (.ref zua)))
    (zlx : K.lookup zua = some ⟨zgd, ztl, .func (PySem.W.fnOf "_law_draw" "_law_draw" (defArgs s__law_draw) (defBody s__law_draw) (defScope s__law_draw) .none zhd zid zjd zul zkd zld), zto⟩)
    (zmx : PySem.W.codeIn K zkd "_law_draw" = true)
    (znx : PySem.W.keepIn K (.ref zua) = true)
    (zox : PySem.W.nsIn K mainGlobals "_law_take" = some (some (.ref zva)))
    (zpx : K.lookup zva = some ⟨zmd, zvl, .func (PySem.W.fnOf "_law_take" "_law_take" (defArgs s__law_take) (defBody s__law_take) (defScope s__law_take) .none znd zod zpd zwl zqd zrd), zuo⟩)
    (zqx : PySem.W.codeIn K zqd "_law_take" = true)
    (zrx : PySem.W.keepIn K (.ref zva) = true)
    (zsx : PySem.W.nsIn K mainGlobals "_law_command" = some (some (.ref zwa)))
    (ztx : K.lookup zwa = some ⟨zsd, zxl, .func (PySem.W.fnOf "_law_command" "_law_command" (defArgs s__law_command) (defBody s__law_command) (defScope s__law_command) .none ztd zud zvd zyl zwd zxd), zvo⟩)
    (zux : PySem.W.codeIn K zwd "_law_command" = true)
    (zvx : PySem.W.keepIn K (.ref zwa) = true)
    (zwx : PySem.W.findIn K (.ref zca) "__init__" = some (some (.ref zxa)))
    (zxx : PySem.W.isFn K (.ref zxa) = true)
    (zyx : K.lookup zxa = some ⟨zyd, zzl, .func (PySem.W.fnOf "__init__" "Console.__init__" (defArgs s_Console_init) (defBody s_Console_init) (defScope s_Console_init) .none zzd zae zbe zam zce zde), zwo⟩)
    (zzx : PySem.W.codeIn K zce "Console.__init__" = true)
    (zay : PySem.W.keepIn K (.ref zxa) = true)
    (zby : PySem.W.nsIn K mainGlobals "number_told" = some (some (.ref zya)))
    (zcy : K.lookup zya = some ⟨zee, zbm, .func (PySem.W.fnOf "number_told" "number_told" (defArgs s_number_told) (defBody s_number_told) (defScope s_number_told) .none zfe zge zhe zcm zie zje), zxo⟩)
    (zdy : PySem.W.codeIn K zie "number_told" = true)
    (zey : PySem.W.keepIn K (.ref zya) = true)
    (zfy : PySem.W.nsIn K mainGlobals "fraction_told" = some (some (.ref zza)))
    (zgy : K.lookup zza = some ⟨zke, zdm, .func (PySem.W.fnOf "fraction_told" "fraction_told" (defArgs s_fraction_told) (defBody s_fraction_told) (defScope s_fraction_told) .none zle zme zne zem zoe zpe), zyo⟩)
    (zhy : PySem.W.codeIn K zoe "fraction_told" = true)
    (ziy : PySem.W.keepIn K (.ref zza) = true)
    (zjy : PySem.W.nsIn K mainGlobals "fraction" = some (some (.ref zab)))
    (zky : K.lookup zab = some ⟨zqe, zfm, .func (PySem.W.fnOf "fraction" "fraction" (defArgs s_fraction) (defBody s_fraction) (defScope s_fraction) .none zre zse zte zgm zue zve), zzo⟩)
    (zly : PySem.W.codeIn K zue "fraction" = true)
    (zmy : PySem.W.keepIn K (.ref zab) = true)
    (zny : PySem.W.nsIn K mainGlobals "_number_told" = some (some (.ref zbb)))
    (zoy : K.lookup zbb = some ⟨zwe, zhm, .func (PySem.W.fnOf "_number_told" "_number_told" (defArgs s__number_told) (defBody s__number_told) (defScope s__number_told) .none zxe zye zze zim zaf zbf), zap⟩)
    (zpy : PySem.W.codeIn K zaf "_number_told" = true)
    (zqy : PySem.W.keepIn K (.ref zbb) = true)
    (zry : PySem.W.nsIn K mainGlobals "_row_told" = some (some (.ref zcb)))
    (zsy : K.lookup zcb = some ⟨zcf, zjm, .func (PySem.W.fnOf "_row_told" "_row_told" (defArgs s__row_told) (defBody s__row_told) (defScope s__row_told) .none zdf zef zff zkm zgf zhf), zbp⟩)
    (zty : PySem.W.codeIn K zgf "_row_told" = true)
    (zuy : PySem.W.keepIn K (.ref zcb) = true)
    (zvy : PySem.W.nsIn K mainGlobals "_pool_told" = some (some (.ref zdb)))
    (zwy : K.lookup zdb = some ⟨zif, zlm, .func (PySem.W.fnOf "_pool_told" "_pool_told" (defArgs s__pool_told) (defBody s__pool_told) (defScope s__pool_told) .none zjf zkf zlf zmm zmf znf), zcp⟩)
    (zxy : PySem.W.codeIn K zmf "_pool_told" = true)
    (zyy : PySem.W.keepIn K (.ref zdb) = true)
    (zzy : PySem.W.nsIn K mainGlobals "_is_name" = some (some (.ref zeb)))
    (zaz : K.lookup zeb = some ⟨zof, znm, .func (PySem.W.fnOf "_is_name" "_is_name" (defArgs s__is_name) (defBody s__is_name) (defScope s__is_name) .none zpf zqf zrf zom zsf ztf), zdp⟩)
    (zbz : PySem.W.codeIn K zsf "_is_name" = true)
    (zcz : PySem.W.keepIn K (.ref zeb) = true)
    (zdz : PySem.W.nsIn K mainGlobals "numbers_told" = some (some (.ref zfb)))
    (zez : K.lookup zfb = some ⟨zuf, zpm, .func (PySem.W.fnOf "numbers_told" "numbers_told" (defArgs s_numbers_told) (defBody s_numbers_told) (defScope s_numbers_told) .none zvf zwf zxf zqm zyf zzf), zep⟩)
    (zfz : PySem.W.codeIn K zyf "numbers_told" = true)
    (zgz : PySem.W.keepIn K (.ref zfb) = true)
    (zhz : PySem.W.nsIn K mainGlobals "race_told" = some (some (.ref zgb)))
    (ziz : K.lookup zgb = some ⟨zag, zrm, .func (PySem.W.fnOf "race_told" "race_told" (defArgs s_race_told) (defBody s_race_told) (defScope s_race_told) .none zbg zcg zdg zsm zeg zfg), zfp⟩)
    (zjz : PySem.W.codeIn K zeg "race_told" = true)
    (zkz : PySem.W.keepIn K (.ref zgb) = true)
    (zlz : PySem.W.nsIn K mainGlobals "bet_told" = some (some (.ref zhb)))
    (zmz : K.lookup zhb = some ⟨zgg, ztm, .func (PySem.W.fnOf "bet_told" "bet_told" (defArgs s_bet_told) (defBody s_bet_told) (defScope s_bet_told) .none zhg zig zjg zum zkg zlg), zgp⟩)
    (znz : PySem.W.codeIn K zkg "bet_told" = true)
    (zoz : PySem.W.keepIn K (.ref zhb) = true)
    (zpz : PySem.W.nsIn K mainGlobals "_offer_told" = some (some (.ref zib)))
    (zqz : K.lookup zib = some ⟨zmg, zvm, .func (PySem.W.fnOf "_offer_told" "_offer_told" (defArgs s__offer_told) (defBody s__offer_told) (defScope s__offer_told) .none zng zog zpg zwm zqg zrg), zhp⟩)
    (zrz : PySem.W.codeIn K zqg "_offer_told" = true)
    (zsz : PySem.W.keepIn K (.ref zib) = true)
    (ztz : PySem.W.nsIn K mainGlobals "offers_told" = some (some (.ref zjb)))
    (zuz : K.lookup zjb = some ⟨zsg, zxm, .func (PySem.W.fnOf "offers_told" "offers_told" (defArgs s_offers_told) (defBody s_offers_told) (defScope s_offers_told) .none ztg zug zvg zym zwg zxg), zip⟩)
    (zvz : PySem.W.codeIn K zwg "offers_told" = true)
    (zwz : PySem.W.keepIn K (.ref zjb) = true)
    (zxz : PySem.W.nsIn K mainGlobals "_bet_and_offers_told" = some (some (.ref zkb)))
    (zyz : K.lookup zkb = some ⟨zyg, zzm, .func (PySem.W.fnOf "_bet_and_offers_told" "_bet_and_offers_told" (defArgs s__bet_and_offers_told) (defBody s__bet_and_offers_told) (defScope s__bet_and_offers_told) .none zzg zah zbh zan zch zdh), zjp⟩)
    (zzz : PySem.W.codeIn K zch "_bet_and_offers_told" = true)
    (zaab : PySem.W.keepIn K (.ref zkb) = true)
    (zbab : PySem.W.nsIn K mainGlobals "_told_behind_name" = some (some (.ref zlb)))
    (zcab : K.lookup zlb = some ⟨zeh, zbn, .func (PySem.W.fnOf "_told_behind_name" "_told_behind_name" (defArgs s__told_behind_name) (defBody s__told_behind_name) (defScope s__told_behind_name) .none zfh zgh zhh zcn zih zjh), zkp⟩)
    (zdab : PySem.W.codeIn K zih "_told_behind_name" = true)
    (zeab : PySem.W.keepIn K (.ref zlb) = true)
    (zfab : PySem.W.nsIn K mainGlobals "_task" = some (some (.ref zmb)))
    (zgab : K.lookup zmb = some ⟨zkh, zdn, .func (PySem.W.fnOf "_task" "_task" (defArgs s__task) (defBody s__task) (defScope s__task) .none zlh zmh znh zen zoh zph), zlp⟩)
    (zhab : PySem.W.codeIn K zoh "_task" = true)
    (ziab : PySem.W.keepIn K (.ref zmb) = true)
    (zjab : PySem.W.nsIn K mainGlobals "is_integer" = some (some (.ref znb)))
    (zkab : K.lookup znb = some ⟨zqh, zfn, .func (PySem.W.fnOf "is_integer" "is_integer" (defArgs s_is_integer) (defBody s_is_integer) (defScope s_is_integer) .none zrh zsh zth zgn zuh zvh), zmp⟩)
    (zlab : PySem.W.codeIn K zuh "is_integer" = true)
    (zmab : PySem.W.keepIn K (.ref znb) = true)
    (znab : PySem.W.nsIn K mainGlobals "is_integer_within" = some (some (.ref zob)))
    (zoab : K.lookup zob = some ⟨zwh, zhn, .func (PySem.W.fnOf "is_integer_within" "is_integer_within" (defArgs s_is_integer_within) (defBody s_is_integer_within) (defScope s_is_integer_within) .none zxh zyh zzh zin zai zbi), znp⟩)
    (zpab : PySem.W.codeIn K zai "is_integer_within" = true)
    (zqab : PySem.W.keepIn K (.ref zob) = true)
    (zrab : PySem.W.nsIn K mainGlobals "is_sequence" = some (some (.ref zpb)))
    (zsab : K.lookup zpb = some ⟨zci, zjn, .func (PySem.W.fnOf "is_sequence" "is_sequence" (defArgs s_is_sequence) (defBody s_is_sequence) (defScope s_is_sequence) .none zdi zei zfi zkn zgi zhi), zop⟩)
    (ztab : PySem.W.codeIn K zgi "is_sequence" = true)
    (zuab : PySem.W.keepIn K (.ref zpb) = true)
    (zvab : PySem.W.nsIn K mainGlobals "_are_runners" = some (some (.ref zqb)))
    (zwab : K.lookup zqb = some ⟨zii, zln, .func (PySem.W.fnOf "_are_runners" "_are_runners" (defArgs s__are_runners) (defBody s__are_runners) (defScope s__are_runners) .none zji zki zli zmn zmi zni), zpp⟩)
    (zxab : PySem.W.codeIn K zmi "_are_runners" = true)
    (zyab : PySem.W.keepIn K (.ref zqb) = true)
    (zzab : PySem.W.nsIn K mainGlobals "_is_ascending" = some (some (.ref zrb)))
    (zabb : K.lookup zrb = some ⟨zoi, znn, .func (PySem.W.fnOf "_is_ascending" "_is_ascending" (defArgs s__is_ascending) (defBody s__is_ascending) (defScope s__is_ascending) .none zpi zqi zri zon zsi zti), zqp⟩)
    (zbbb : PySem.W.codeIn K zsi "_is_ascending" = true)
    (zcbb : PySem.W.keepIn K (.ref zrb) = true)
    (zdbb : PySem.W.nsIn K mainGlobals "_are_cuts" = some (some (.ref zsb)))
    (zebb : K.lookup zsb = some ⟨zui, zpn, .func (PySem.W.fnOf "_are_cuts" "_are_cuts" (defArgs s__are_cuts) (defBody s__are_cuts) (defScope s__are_cuts) .none zvi zwi zxi zqn zyi zzi), zrp⟩)
    (zfbb : PySem.W.codeIn K zyi "_are_cuts" = true)
    (zgbb : PySem.W.keepIn K (.ref zsb) = true)
    (zhbb : PySem.W.findIn K (.ref zaa) "__init__" = some (some (.ref ztb)))
    (zibb : PySem.W.isFn K (.ref ztb) = true)
    (zjbb : K.lookup ztb = some ⟨zaj, zrn, .func (PySem.W.fnOf "__init__" "Race.__init__" (defArgs s_Race_init) (defBody s_Race_init) (defScope s_Race_init) (.ref zub) zbj zcj zdj zsn zej zfj), zsp⟩)
    (zkbb : K.lookup zub = some ⟨zgj, ztn, .seq #[.bool true, .ref zvb, .ref zwb] zjs, ztp⟩)
    (zlbb : K.lookup zvb = some ⟨.type "tuple", zun, .seq #[] zks, zup⟩)
    (zmbb : K.lookup zwb = some ⟨.type "tuple", zvn, .seq #[] zls, zvp⟩)
    (znbb : PySem.W.codeIn K zej "Race.__init__" = true)
    (zobb : PySem.W.keepIn K (.ref ztb) = true)
    (zpbb : PySem.W.findIn K (.ref zca) "_worked_out" = some (some (.ref zxb)))
    (zqbb : PySem.W.isFn K (.ref zxb) = true)
    (zrbb : K.lookup zxb = some ⟨zhj, zwn, .func (PySem.W.fnOf "_worked_out" "Console._worked_out" (defArgs s_Console_worked_out) (defBody s_Console_worked_out) (defScope s_Console_worked_out) .none zij zjj zkj zxn zlj zmj), zwp⟩)
    (zsbb : PySem.W.codeIn K zlj "Console._worked_out" = true)
    (ztbb : PySem.W.keepIn K (.ref zxb) = true)
    (zubb : PySem.W.findIn K (.ref zca) "_answer" = some (some (.ref zyb)))
    (zvbb : PySem.W.isFn K (.ref zyb) = true)
    (zwbb : K.lookup zyb = some ⟨znj, zyn, .func (PySem.W.fnOf "_answer" "Console._answer" (defArgs s_Console_answer) (defBody s_Console_answer) (defScope s_Console_answer) .none zoj zpj zqj zzn zrj zsj), zxp⟩)
    (zxbb : PySem.W.codeIn K zrj "Console._answer" = true)
    (zybb : PySem.W.keepIn K (.ref zyb) = true)
    (zzbb : PySem.W.findIn K (.ref zca) "_repeat" = some (some (.ref zzb)))
    (zacb : PySem.W.isFn K (.ref zzb) = true)
    (zbcb : K.lookup zzb = some ⟨ztj, zao, .func (PySem.W.fnOf "_repeat" "Console._repeat" (defArgs s_Console_repeat) (defBody s_Console_repeat) (defScope s_Console_repeat) .none zuj zvj zwj zbo zxj zyj), zyp⟩)
    (zccb : PySem.W.codeIn K zxj "Console._repeat" = true)
    (zdcb : PySem.W.keepIn K (.ref zzb) = true)
    (zecb : PySem.W.readsIn K zca (.type "type") = true)
    (zfcb : PySem.W.specialIn K (.ref zca) "__getattribute__" = some (some (.builtin "type.__getattribute__")))
    (zgcb : PySem.W.findCls K (.ref zca) (.type "type") "replayed" = some (.get (.builtin "staticmethod.__get__") (.ref zbc) .none (.ref zca)))
    (zhcb : PySem.W.recIn K zbc "staticmethod" = some (.ref zac :: zms))
    (zicb : K.lookup zac = some ⟨zzj, zco, .func (PySem.W.fnOf "replayed" "Console.replayed" (defArgs s_Console_replayed) (defBody s_Console_replayed) (defScope s_Console_replayed) .none zak zbk zck zdo zdk zek), zzp⟩)
    (zjcb : PySem.W.codeIn K zdk "Console.replayed" = true)
    (zkcb : PySem.W.keepIn K (.ref zac) = true)
    (zlcb : PySem.W.nsIn K mainGlobals "_law_replay_fault" = some (some (.ref zcc)))
    (zmcb : K.lookup zcc = some ⟨zfk, zeo, .func (PySem.W.fnOf "_law_replay_fault" "_law_replay_fault" (defArgs s__law_replay_fault) (defBody s__law_replay_fault) (defScope s__law_replay_fault) .none zgk zhk zik zfo zjk zkk), zaq⟩)
    (zncb : PySem.W.codeIn K zjk "_law_replay_fault" = true)
    (zocb : PySem.W.keepIn K (.ref zcc) = true)
    (zpcb : PySem.W.findIn K (.ref zca) "log" = some (some (.ref zdc)))
    (zqcb : PySem.W.isFn K (.ref zdc) = true)
    (zrcb : K.lookup zdc = some ⟨zlk, zgo, .func (PySem.W.fnOf "log" "Console.log" (defArgs s_Console_log) (defBody s_Console_log) (defScope s_Console_log) .none zmk znk zok zho zpk zqk), zbq⟩)
    (zscb : PySem.W.codeIn K zpk "Console.log" = true)
    (ztcb : PySem.W.keepIn K (.ref zdc) = true)
    (zucb : PySem.W.nsIn K mainGlobals "_law_text_of" = some (some (.ref zec)))
    (zvcb : K.lookup zec = some ⟨zrk, zio, .func (PySem.W.fnOf "_law_text_of" "_law_text_of" (defArgs s__law_text_of) (defBody s__law_text_of) (defScope s__law_text_of) .none zsk ztk zuk zjo zvk zwk), zcq⟩)
    (zwcb : PySem.W.codeIn K zvk "_law_text_of" = true)
    (zxcb : PySem.W.keepIn K (.ref zec) = true)
    (zycb : PySem.W.nsIn K mainGlobals "_law_no_command" = some (some (.ref zfc)))
    (zzcb : K.lookup zfc = some ⟨zxk, zko, .func (PySem.W.fnOf "_law_no_command" "_law_no_command" (defArgs s__law_no_command) (defBody s__law_no_command) (defScope s__law_no_command) .none zyk zzk zal zlo zbl zcl), zdq⟩)
    (zadb : PySem.W.codeIn K zbl "_law_no_command" = true)
    (zbdb : PySem.W.keepIn K (.ref zfc) = true)
    (a_law : PySem.W.nsIn K mainGlobals "law" = some (some (.ref f_law)))
    (l_law : K.lookup f_law = some ⟨zdl, zmo, .func (PySem.W.fnOf "law" "law" (defArgs s_law) (defBody s_law) (defScope s_law) .none zel zfl zgl zno zhl zil), zeq⟩)
    (c_law : PySem.W.codeIn K zhl "law" = true)
    (zcdb : PySem.W.keepIn K (.ref f_law) = true)
    (zddb : DkX K w mg "POOL_ANSWERS" [Str.ofString "comes", Str.ofString "least"])
    : ∃ fd : FuncData, (∀ (s : Shared) (u : Value), BindsTo s fd ⟨[u], []⟩ [("script", u)]) ∧ ∀ base : Heap, K.In base → base.Ns mainGlobals mg → FnOk P w K mg base (L2.CX P w) 16 fa fd ["script"] (spL K) := by
  have e := hfa.symm.trans (PySem.W.mg_of X G a_law)
  cases e
  have E_BadValue := mk_err_at zcu (by rfl) zdu zeu zfu zgu zhu ziu zju zku zlu zmu znu zou
  have E_BadOffer := mk_err_at zqu (by rfl) zru zsu ztu zuu zvu zwu zxu zyu zzu zav zbv zcv
  have E_BadSyntax := mk_err_at zev (by rfl) zfv zgv zhv ziv zjv zkv zlv zmv znv zov zpv zqv
  have E_TooMany := mk_err_word zsv (by rfl) ztv zuv zvv zwv zxv zyv zzv zaw zbw zcw zdw zew
  have TT : TX K mg (fun n => if n = 0 then zaa else if n = 1 then zba else zca) (fun n => if n = 0 then zda else if n = 1 then zha else if n = 2 then zla else zpa) (fun n => if n = 0 then "at" else if n = 1 then "at" else if n = 2 then "at" else "word") := {
    b_all := PySem.W.mg_none_of X G z_all,
    b_bool := PySem.W.mg_none_of X G zot,
    b_enumerate := PySem.W.mg_none_of X G zpt,
    b_int := PySem.W.mg_none_of X G z_int,
    b_isinstance := PySem.W.mg_none_of X G zqt,
    b_len := PySem.W.mg_none_of X G z_len,
    b_list := PySem.W.mg_none_of X G zrt,
    b_range := PySem.W.mg_none_of X G zst,
    b_set := PySem.W.mg_none_of X G z_set,
    b_sorted := PySem.W.mg_none_of X G ztt,
    b_str := PySem.W.mg_none_of X G z_str,
    b_tuple := PySem.W.mg_none_of X G zut,
    g_gcd := PySem.W.mg_of X G z_gcd,
    na_Console__commands := zvt,
    na_Console__races := zwt,
    na_Race__absent := zxt,
    na_Race__cuts := zyt,
    na_Race__runners := zzt,
    na_Race__ties := zau,
    k_MOST_DIGITS := ⟨_, PySem.W.mg_of X G k_MOST_DIGITS⟩,
    k_MOST_LETTERS := ⟨_, PySem.W.mg_of X G k_MOST_LETTERS⟩,
    k_MOST_CUT := ⟨_, PySem.W.mg_of X G k_MOST_CUT⟩,
    k_MOST_RUNNERS := ⟨_, PySem.W.mg_of X G k_MOST_RUNNERS⟩,
    c_Race := ⟨⟨zos, zps, zqs, zrs⟩, zss, hn, ht, zts⟩,
    m_Race := PySem.W.mg_of X G zns,
    c_Table := ⟨⟨zxs, zys, zzs, zat⟩, zbt, hn, ht, zct⟩,
    m_Table := PySem.W.mg_of X G zws,
    c_Console := ⟨⟨zgt, zht, zit, zjt⟩, zkt, hn, ht, zlt⟩,
    m_Console := PySem.W.mg_of X G zft,
    e_BadValue := E_BadValue,
    is_BadValue := fun k b hk => match k, hk with
      | 0, hk => (by have e : some true = some b := hk; cases e; exact exm_own zfw zju ziu zgw)
      | 1, hk => (by have e : some false = some b := hk; cases e; exact exm_own zfw zju ziu zhw)
      | 2, hk => (by have e : some false = some b := hk; cases e; exact exm_own zfw zju ziu ziw)
      | 3, hk => (by have e : some false = some b := hk; cases e; exact exm_own zfw zju ziu zjw)
      | k + 4, hk => (by have e : cat_BadValue (k + 4) = none := if_neg (by omega); rw [e] at hk; cases hk),
    it_BadValue := fun k hk => match k, hk with
      | 0, hk => (⟨rfl, E_BadValue⟩)
      | 1, hk => (by have e : some false = some true := hk; cases e)
      | 2, hk => (by have e : some false = some true := hk; cases e)
      | 3, hk => (by have e : some false = some true := hk; cases e)
      | k + 4, hk => (by have e : cat_BadValue (k + 4) = none := if_neg (by omega); rw [e] at hk; cases hk),
    ef_BadValue := rfl,
    em_BadValue := PySem.W.mg_of X G zbu,
    e_BadOffer := E_BadOffer,
    is_BadOffer := fun k b hk => match k, hk with
      | 0, hk => (by have e : some false = some b := hk; cases e; exact exm_own zkw zxu zwu zlw)
      | 1, hk => (by have e : some true = some b := hk; cases e; exact exm_own zkw zxu zwu zmw)
      | 2, hk => (by have e : some false = some b := hk; cases e; exact exm_own zkw zxu zwu znw)
      | 3, hk => (by have e : some false = some b := hk; cases e; exact exm_own zkw zxu zwu zow)
      | k + 4, hk => (by have e : cat_BadOffer (k + 4) = none := if_neg (by omega); rw [e] at hk; cases hk),
    it_BadOffer := fun k hk => match k, hk with
      | 0, hk => (by have e : some false = some true := hk; cases e)
      | 1, hk => (⟨rfl, E_BadOffer⟩)
      | 2, hk => (by have e : some false = some true := hk; cases e)
      | 3, hk => (by have e : some false = some true := hk; cases e)
      | k + 4, hk => (by have e : cat_BadOffer (k + 4) = none := if_neg (by omega); rw [e] at hk; cases hk),
    ef_BadOffer := rfl,
    em_BadOffer := PySem.W.mg_of X G zpu,
    e_BadSyntax := E_BadSyntax,
    is_BadSyntax := fun k b hk => match k, hk with
      | 0, hk => (by have e : some false = some b := hk; cases e; exact exm_own zpw zlv zkv zqw)
      | 1, hk => (by have e : some false = some b := hk; cases e; exact exm_own zpw zlv zkv zrw)
      | 2, hk => (by have e : some true = some b := hk; cases e; exact exm_own zpw zlv zkv zsw)
      | 3, hk => (by have e : some false = some b := hk; cases e; exact exm_own zpw zlv zkv ztw)
      | k + 4, hk => (by have e : cat_BadSyntax (k + 4) = none := if_neg (by omega); rw [e] at hk; cases hk),
    it_BadSyntax := fun k hk => match k, hk with
      | 0, hk => (by have e : some false = some true := hk; cases e)
      | 1, hk => (by have e : some false = some true := hk; cases e)
      | 2, hk => (⟨rfl, E_BadSyntax⟩)
      | 3, hk => (by have e : some false = some true := hk; cases e)
      | k + 4, hk => (by have e : cat_BadSyntax (k + 4) = none := if_neg (by omega); rw [e] at hk; cases hk),
    ef_BadSyntax := rfl,
    em_BadSyntax := PySem.W.mg_of X G zdv,
    e_TooMany := E_TooMany,
    is_TooMany := fun k b hk => match k, hk with
      | 0, hk => (by have e : some false = some b := hk; cases e; exact exm_own zuw zzv zyv zvw)
      | 1, hk => (by have e : some false = some b := hk; cases e; exact exm_own zuw zzv zyv zww)
      | 2, hk => (by have e : some false = some b := hk; cases e; exact exm_own zuw zzv zyv zxw)
      | 3, hk => (by have e : some true = some b := hk; cases e; exact exm_own zuw zzv zyv zyw)
      | k + 4, hk => (by have e : cat_TooMany (k + 4) = none := if_neg (by omega); rw [e] at hk; cases hk),
    it_TooMany := fun k hk => match k, hk with
      | 0, hk => (by have e : some false = some true := hk; cases e)
      | 1, hk => (by have e : some false = some true := hk; cases e)
      | 2, hk => (by have e : some false = some true := hk; cases e)
      | 3, hk => (⟨rfl, E_TooMany⟩)
      | k + 4, hk => (by have e : cat_TooMany (k + 4) = none := if_neg (by omega); rw [e] at hk; cases hk),
    ef_TooMany := rfl,
    em_TooMany := PySem.W.mg_of X G zrv,
    ai_int := fun c b hq => (by unfold ans_int at hq; dsimp only at hq; split at hq; (rename_i hc; subst hc; exact ⟨⟨zos, zps, zqs, zrs⟩, zss, hn, ht, zts⟩); (cases hq)),
    an_int := fun t b hq => match t, b, hq with
      | .non, b, hq => (by cases hq; rfl)
      | .bl, b, hq => (by cases hq; rfl)
      | .int, b, hq => (by cases hq; rfl)
      | .str, b, hq => (by cases hq; rfl)
      | .tup, b, hq => (by cases hq; rfl)
      | .lst, b, hq => (by cases hq; rfl)
      | .cls c, b, hq => (by unfold ans_int at hq; dsimp only at hq; split at hq; (rename_i hc; subst hc; cases hq; exact kit_1 zbx (by rfl)); (cases hq)),
    ai_bool := fun c b hq => (by unfold ans_bool at hq; dsimp only at hq; split at hq; (rename_i hc; subst hc; exact ⟨⟨zos, zps, zqs, zrs⟩, zss, hn, ht, zts⟩); (cases hq)),
    an_bool := fun t b hq => match t, b, hq with
      | .non, b, hq => (by cases hq; rfl)
      | .bl, b, hq => (by cases hq; rfl)
      | .int, b, hq => (by cases hq; rfl)
      | .str, b, hq => (by cases hq; rfl)
      | .tup, b, hq => (by cases hq; rfl)
      | .lst, b, hq => (by cases hq; rfl)
      | .cls c, b, hq => (by unfold ans_bool at hq; dsimp only at hq; split at hq; (rename_i hc; subst hc; cases hq; exact kit_1 zcx (by rfl)); (cases hq)),
    ai_list_tuple := fun c b hq => (by unfold ans_list_tuple at hq; dsimp only at hq; split at hq; (rename_i hc; subst hc; exact ⟨⟨zos, zps, zqs, zrs⟩, zss, hn, ht, zts⟩); (cases hq)),
    an_list_tuple := fun t b hq => match t, b, hq with
      | .non, b, hq => (by cases hq; rfl)
      | .bl, b, hq => (by cases hq; rfl)
      | .int, b, hq => (by cases hq; rfl)
      | .str, b, hq => (by cases hq; rfl)
      | .tup, b, hq => (by cases hq; rfl)
      | .lst, b, hq => (by cases hq; rfl)
      | .cls c, b, hq => (by unfold ans_list_tuple at hq; dsimp only at hq; split at hq; (rename_i hc; subst hc; cases hq; exact kit_more (kit_1 zdx (by rfl)) (kit_1 zex (by rfl))); (cases hq)),
    ai_str := fun c b hq => (by unfold ans_str at hq; dsimp only at hq; split at hq; (rename_i hc; subst hc; exact ⟨⟨zos, zps, zqs, zrs⟩, zss, hn, ht, zts⟩); (cases hq)),
    an_str := fun t b hq => match t, b, hq with
      | .non, b, hq => (by cases hq; rfl)
      | .bl, b, hq => (by cases hq; rfl)
      | .int, b, hq => (by cases hq; rfl)
      | .str, b, hq => (by cases hq; rfl)
      | .tup, b, hq => (by cases hq; rfl)
      | .lst, b, hq => (by cases hq; rfl)
      | .cls c, b, hq => (by unfold ans_str at hq; dsimp only at hq; split at hq; (rename_i hc; subst hc; cases hq; exact kit_1 zfx (by rfl)); (cases hq)) }
  have FF__law_numbers := fun_mk (st := s__law_numbers) zhx zix zjx
  have B__law_numbers := FF__law_numbers.binds (ps := ["script"]) fun _ _ _ _ _ _ us hl => match us, hl with | [_], _ => rfl
  have FF__law_draw := fun_mk (st := s__law_draw) zlx zmx znx
  have B__law_draw := FF__law_draw.binds (ps := ["row", "at", "limit"]) fun _ _ _ _ _ _ us hl => match us, hl with | [_, _, _], _ => rfl
  have FF__law_take := fun_mk (st := s__law_take) zpx zqx zrx
  have B__law_take := FF__law_take.binds (ps := ["row", "spot", "limit"]) fun _ _ _ _ _ _ us hl => match us, hl with | [_, _, _], _ => rfl
  have FF__law_command := fun_mk (st := s__law_command) ztx zux zvx
  have B__law_command := FF__law_command.binds (ps := ["row", "spot"]) fun _ _ _ _ _ _ us hl => match us, hl with | [_, _], _ => rfl
  have FF_Console_init := fun_mk (st := s_Console_init) zyx zzx zay
  have B_Console_init := FF_Console_init.binds (ps := ["self"]) fun _ _ _ _ _ _ us hl => match us, hl with | [_], _ => rfl
  have FF_number_told := fun_mk (st := s_number_told) zcy zdy zey
  have B_number_told := FF_number_told.binds (ps := ["word"]) fun _ _ _ _ _ _ us hl => match us, hl with | [_], _ => rfl
  have FF_fraction_told := fun_mk (st := s_fraction_told) zgy zhy ziy
  have B_fraction_told := FF_fraction_told.binds (ps := ["word"]) fun _ _ _ _ _ _ us hl => match us, hl with | [_], _ => rfl
  have FF_fraction := fun_mk (st := s_fraction) zky zly zmy
  have B_fraction := FF_fraction.binds (ps := ["top", "bottom"]) fun _ _ _ _ _ _ us hl => match us, hl with | [_, _], _ => rfl
  have FF__number_told := fun_mk (st := s__number_told) zoy zpy zqy
  have B__number_told := FF__number_told.binds (ps := ["word"]) fun _ _ _ _ _ _ us hl => match us, hl with | [_], _ => rfl
  have FF__row_told := fun_mk (st := s__row_told) zsy zty zuy
  have B__row_told := FF__row_told.binds (ps := ["word"]) fun _ _ _ _ _ _ us hl => match us, hl with | [_], _ => rfl
  have FF__pool_told := fun_mk (st := s__pool_told) zwy zxy zyy
  have B__pool_told := FF__pool_told.binds (ps := ["words"]) fun _ _ _ _ _ _ us hl => match us, hl with | [_], _ => rfl
  have FF__is_name := fun_mk (st := s__is_name) zaz zbz zcz
  have B__is_name := FF__is_name.binds (ps := ["word"]) fun _ _ _ _ _ _ us hl => match us, hl with | [_], _ => rfl
  have FF_numbers_told := fun_mk (st := s_numbers_told) zez zfz zgz
  have B_numbers_told := FF_numbers_told.binds (ps := ["word"]) fun _ _ _ _ _ _ us hl => match us, hl with | [_], _ => rfl
  have FF_race_told := fun_mk (st := s_race_told) ziz zjz zkz
  have B_race_told := FF_race_told.binds (ps := ["words"]) fun _ _ _ _ _ _ us hl => match us, hl with | [_], _ => rfl
  have FF_bet_told := fun_mk (st := s_bet_told) zmz znz zoz
  have B_bet_told := FF_bet_told.binds (ps := ["word"]) fun _ _ _ _ _ _ us hl => match us, hl with | [_], _ => rfl
  have FF__offer_told := fun_mk (st := s__offer_told) zqz zrz zsz
  have B__offer_told := FF__offer_told.binds (ps := ["word"]) fun _ _ _ _ _ _ us hl => match us, hl with | [_], _ => rfl
  have FF_offers_told := fun_mk (st := s_offers_told) zuz zvz zwz
  have B_offers_told := FF_offers_told.binds (ps := ["words"]) fun _ _ _ _ _ _ us hl => match us, hl with | [_], _ => rfl
  have FF__bet_and_offers_told := fun_mk (st := s__bet_and_offers_told) zyz zzz zaab
  have B__bet_and_offers_told := FF__bet_and_offers_told.binds (ps := ["words"]) fun _ _ _ _ _ _ us hl => match us, hl with | [_], _ => rfl
  have FF__told_behind_name := fun_mk (st := s__told_behind_name) zcab zdab zeab
  have B__told_behind_name := FF__told_behind_name.binds (ps := ["word", "words"]) fun _ _ _ _ _ _ us hl => match us, hl with | [_, _], _ => rfl
  have FF__task := fun_mk (st := s__task) zgab zhab ziab
  have B__task := FF__task.binds (ps := ["command"]) fun _ _ _ _ _ _ us hl => match us, hl with | [_], _ => rfl
  have FF_is_integer := fun_mk (st := s_is_integer) zkab zlab zmab
  have B_is_integer := FF_is_integer.binds (ps := ["value"]) fun _ _ _ _ _ _ us hl => match us, hl with | [_], _ => rfl
  have FF_is_integer_within := fun_mk (st := s_is_integer_within) zoab zpab zqab
  have B_is_integer_within := FF_is_integer_within.binds (ps := ["value", "least", "most"]) fun _ _ _ _ _ _ us hl => match us, hl with | [_, _, _], _ => rfl
  have FF_is_sequence := fun_mk (st := s_is_sequence) zsab ztab zuab
  have B_is_sequence := FF_is_sequence.binds (ps := ["value"]) fun _ _ _ _ _ _ us hl => match us, hl with | [_], _ => rfl
  have FF__are_runners := fun_mk (st := s__are_runners) zwab zxab zyab
  have B__are_runners := FF__are_runners.binds (ps := ["value", "runners"]) fun _ _ _ _ _ _ us hl => match us, hl with | [_, _], _ => rfl
  have FF__is_ascending := fun_mk (st := s__is_ascending) zabb zbbb zcbb
  have B__is_ascending := FF__is_ascending.binds (ps := ["value", "runners"]) fun _ _ _ _ _ _ us hl => match us, hl with | [_, _], _ => rfl
  have FF__are_cuts := fun_mk (st := s__are_cuts) zebb zfbb zgbb
  have B__are_cuts := FF__are_cuts.binds (ps := ["value", "runners"]) fun _ _ _ _ _ _ us hl => match us, hl with | [_, _], _ => rfl
  have zedb : L2.FunD K "__init__" "Race.__init__" (defArgs s_Race_init) (defBody s_Race_init) (defScope s_Race_init) [.bl true, .ref zvb, .ref zwb] [] ztb _ := ⟨⟨_, _, _, _, _, _, _, _, _, _, rfl, zjbb, znbb, .inr ⟨by simp, zub, _, _, _, rfl, zkbb, rfl, (.cons rfl (.cons rfl (.cons rfl .nil)))⟩, .inl rfl⟩, zobb⟩
  obtain ⟨ds_Race_init_o0, dv_Race_init_o0, B_Race_init_o0⟩ := L2.FunD.binds1 (ps := ["self", "runners", "ties", "absent", "cuts"]) zedb 5 3 (by simp) rfl fun _ _ _ _ _ _ _ us its hl hl2 => match us, hl, its, hl2 with | [_, _, _, _, _], _, [_, _, _], _ => ⟨_, rfl, rfl⟩
  obtain ⟨ds_Race_init_o1, dv_Race_init_o1, B_Race_init_o1⟩ := L2.FunD.binds1 (ps := ["self", "runners", "ties", "absent", "cuts"]) zedb 4 2 (by simp) rfl fun _ _ _ _ _ _ _ us its hl hl2 => match us, hl, its, hl2 with | [_, _, _, _], _, [_, _, _], _ => ⟨_, rfl, rfl⟩
  obtain ⟨ds_Race_init_o2, dv_Race_init_o2, B_Race_init_o2⟩ := L2.FunD.binds1 (ps := ["self", "runners", "ties", "absent", "cuts"]) zedb 3 1 (by simp) rfl fun _ _ _ _ _ _ _ us its hl hl2 => match us, hl, its, hl2 with | [_, _, _], _, [_, _, _], _ => ⟨_, rfl, rfl⟩
  obtain ⟨ds_Race_init_o3, dv_Race_init_o3, B_Race_init_o3⟩ := L2.FunD.binds1 (ps := ["self", "runners", "ties", "absent", "cuts"]) zedb 2 0 (by simp) rfl fun _ _ _ _ _ _ _ us its hl hl2 => match us, hl, its, hl2 with | [_, _], _, [_, _, _], _ => ⟨_, rfl, rfl⟩
  have FF_Console_worked_out := fun_mk (st := s_Console_worked_out) zrbb zsbb ztbb
  have B_Console_worked_out := FF_Console_worked_out.binds (ps := ["self", "task"]) fun _ _ _ _ _ _ us hl => match us, hl with | [_, _], _ => rfl
  have FF_Console_answer := fun_mk (st := s_Console_answer) zwbb zxbb zybb
  have B_Console_answer := FF_Console_answer.binds (ps := ["self", "task"]) fun _ _ _ _ _ _ us hl => match us, hl with | [_, _], _ => rfl
  have FF_Console_repeat := fun_mk (st := s_Console_repeat) zbcb zccb zdcb
  have B_Console_repeat := FF_Console_repeat.binds (ps := ["self", "command", "task"]) fun _ _ _ _ _ _ us hl => match us, hl with | [_, _, _], _ => rfl
  have FF_Console_replayed := fun_mk (st := s_Console_replayed) zicb zjcb zkcb
  have B_Console_replayed := FF_Console_replayed.binds (ps := ["log"]) fun _ _ _ _ _ _ us hl => match us, hl with | [_], _ => rfl
  have FF__law_replay_fault := fun_mk (st := s__law_replay_fault) zmcb zncb zocb
  have B__law_replay_fault := FF__law_replay_fault.binds (ps := ["text"]) fun _ _ _ _ _ _ us hl => match us, hl with | [_], _ => rfl
  have FF_Console_log := fun_mk (st := s_Console_log) zrcb zscb ztcb
  have B_Console_log := FF_Console_log.binds (ps := ["self"]) fun _ _ _ _ _ _ us hl => match us, hl with | [_], _ => rfl
  have FF__law_text_of := fun_mk (st := s__law_text_of) zvcb zwcb zxcb
  have B__law_text_of := FF__law_text_of.binds (ps := ["rows"]) fun _ _ _ _ _ _ us hl => match us, hl with | [_], _ => rfl
  have FF__law_no_command := fun_mk (st := s__law_no_command) zzcb zadb zbdb
  have B__law_no_command := FF__law_no_command.binds (ps := ["row", "spot"]) fun _ _ _ _ _ _ us hl => match us, hl with | [_, _], _ => rfl
  have FF_law := fun_mk (st := s_law) l_law c_law zcdb
  have B_law := FF_law.binds (ps := ["script"]) fun _ _ _ _ _ _ us hl => match us, hl with | [_], _ => rfl
  suffices hh : ∀ base : Heap, K.In base → base.Ns mainGlobals mg → FnOk P w K mg base (L2.CX P w) 16 fa (PySem.W.fnOf "law" "law" (defArgs s_law) (defBody s_law) (defScope s_law) .none zel zfl zgl zno zhl zil) ["script"] (spL K) from ⟨_, fun s u => .of_eq rfl, hh⟩
  intro base _ _
  have zfdb : Fn ⟨K, fun n => if n = 0 then zaa else if n = 1 then zba else zca, fun n => if n = 0 then zda else if n = 1 then zha else if n = 2 then zla else zpa, fun n => if n = 0 then "at" else if n = 1 then "at" else if n = 2 then "at" else "word"⟩ P w mg base 1 "_law_numbers" 1 [] F__law_numbers := fn_mk1 (ok__law_numbers FF__law_numbers TT) (mark_defn _ _) (PySem.W.mg_of X G zgx) zjx B__law_numbers
  have zgdb : Fn ⟨K, fun n => if n = 0 then zaa else if n = 1 then zba else zca, fun n => if n = 0 then zda else if n = 1 then zha else if n = 2 then zla else zpa, fun n => if n = 0 then "at" else if n = 1 then "at" else if n = 2 then "at" else "word"⟩ P w mg base 1 "_law_draw" 3 [] F__law_draw := fn_mk1 (ok__law_draw FF__law_draw TT) (mark_defn _ _) (PySem.W.mg_of X G zkx) znx B__law_draw
  have zhdb : Fn ⟨K, fun n => if n = 0 then zaa else if n = 1 then zba else zca, fun n => if n = 0 then zda else if n = 1 then zha else if n = 2 then zla else zpa, fun n => if n = 0 then "at" else if n = 1 then "at" else if n = 2 then "at" else "word"⟩ P w mg base 2 "_law_take" 3 [] F__law_take := fn_mk1 (ok__law_take FF__law_take TT zgdb) (mark_defn _ _) (PySem.W.mg_of X G zox) zrx B__law_take
  have zidb : Fn ⟨K, fun n => if n = 0 then zaa else if n = 1 then zba else zca, fun n => if n = 0 then zda else if n = 1 then zha else if n = 2 then zla else zpa, fun n => if n = 0 then "at" else if n = 1 then "at" else if n = 2 then "at" else "word"⟩ P w mg base 3 "_law_command" 2 [] F__law_command := fn_mk1 (ok__law_command FF__law_command TT zhdb) (mark_defn _ _) (PySem.W.mg_of X G zsx) zvx B__law_command
  have zjdb : FnI ⟨K, fun n => if n = 0 then zaa else if n = 1 then zba else zca, fun n => if n = 0 then zda else if n = 1 then zha else if n = 2 then zla else zpa, fun n => if n = 0 then "at" else if n = 1 then "at" else if n = 2 then "at" else "word"⟩ P w mg base 1 "Console" 2 1 [] F_Console_init := fnI_mk1 (ok_Console_init FF_Console_init TT) (mark_defn _ _) ⟨zmt, zwx, zxx, znt⟩ (PySem.W.mg_of X G zft) B_Console_init .nil
  have zkdb : Fn ⟨K, fun n => if n = 0 then zaa else if n = 1 then zba else zca, fun n => if n = 0 then zda else if n = 1 then zha else if n = 2 then zla else zpa, fun n => if n = 0 then "at" else if n = 1 then "at" else if n = 2 then "at" else "word"⟩ P w mg base 1 "number_told" 1 [] F_number_told := fn_mk1 (ok_number_told FF_number_told TT) (mark_defn _ _) (PySem.W.mg_of X G zby) zey B_number_told
  have zldb : Fn ⟨K, fun n => if n = 0 then zaa else if n = 1 then zba else zca, fun n => if n = 0 then zda else if n = 1 then zha else if n = 2 then zla else zpa, fun n => if n = 0 then "at" else if n = 1 then "at" else if n = 2 then "at" else "word"⟩ P w mg base 2 "fraction_told" 1 [] F_fraction_told := fn_mk1 (ok_fraction_told FF_fraction_told TT zkdb) (mark_defn _ _) (PySem.W.mg_of X G zfy) ziy B_fraction_told
  have zmdb : Fn ⟨K, fun n => if n = 0 then zaa else if n = 1 then zba else zca, fun n => if n = 0 then zda else if n = 1 then zha else if n = 2 then zla else zpa, fun n => if n = 0 then "at" else if n = 1 then "at" else if n = 2 then "at" else "word"⟩ P w mg base 1 "fraction" 2 [] F_fraction := fn_mk1 (ok_fraction FF_fraction TT) (mark_defn _ _) (PySem.W.mg_of X G zjy) zmy B_fraction
  have zndb : Fn ⟨K, fun n => if n = 0 then zaa else if n = 1 then zba else zca, fun n => if n = 0 then zda else if n = 1 then zha else if n = 2 then zla else zpa, fun n => if n = 0 then "at" else if n = 1 then "at" else if n = 2 then "at" else "word"⟩ P w mg base 3 "_number_told" 1 [] F__number_told := fn_mk1 (ok__number_told FF__number_told TT zldb zmdb) (mark_defn _ _) (PySem.W.mg_of X G zny) zqy B__number_told
  have zodb : Fn ⟨K, fun n => if n = 0 then zaa else if n = 1 then zba else zca, fun n => if n = 0 then zda else if n = 1 then zha else if n = 2 then zla else zpa, fun n => if n = 0 then "at" else if n = 1 then "at" else if n = 2 then "at" else "word"⟩ P w mg base 4 "_row_told" 1 [] F__row_told := fn_mk1 (ok__row_told FF__row_told TT zndb) (mark_defn _ _) (PySem.W.mg_of X G zry) zuy B__row_told
  have zpdb : Fn ⟨K, fun n => if n = 0 then zaa else if n = 1 then zba else zca, fun n => if n = 0 then zda else if n = 1 then zha else if n = 2 then zla else zpa, fun n => if n = 0 then "at" else if n = 1 then "at" else if n = 2 then "at" else "word"⟩ P w mg base 5 "_pool_told" 1 [] F__pool_told := fn_mk1 (ok__pool_told FF__pool_told TT zndb zodb) (mark_defn _ _) (PySem.W.mg_of X G zvy) zyy B__pool_told
  have zqdb : Fn ⟨K, fun n => if n = 0 then zaa else if n = 1 then zba else zca, fun n => if n = 0 then zda else if n = 1 then zha else if n = 2 then zla else zpa, fun n => if n = 0 then "at" else if n = 1 then "at" else if n = 2 then "at" else "word"⟩ P w mg base 1 "_is_name" 1 [] F__is_name := fn_mk1 (ok__is_name FF__is_name TT) (mark_defn _ _) (PySem.W.mg_of X G zzy) zcz B__is_name
  have zrdb : Fn ⟨K, fun n => if n = 0 then zaa else if n = 1 then zba else zca, fun n => if n = 0 then zda else if n = 1 then zha else if n = 2 then zla else zpa, fun n => if n = 0 then "at" else if n = 1 then "at" else if n = 2 then "at" else "word"⟩ P w mg base 2 "numbers_told" 1 [] F_numbers_told := fn_mk1 (ok_numbers_told FF_numbers_told TT zkdb) (mark_defn _ _) (PySem.W.mg_of X G zdz) zgz B_numbers_told
  have zsdb : Fn ⟨K, fun n => if n = 0 then zaa else if n = 1 then zba else zca, fun n => if n = 0 then zda else if n = 1 then zha else if n = 2 then zla else zpa, fun n => if n = 0 then "at" else if n = 1 then "at" else if n = 2 then "at" else "word"⟩ P w mg base 3 "race_told" 1 [] F_race_told := fn_mk1 (ok_race_told FF_race_told TT zkdb zrdb) (mark_defn _ _) (PySem.W.mg_of X G zhz) zkz B_race_told
  have ztdb : Fn ⟨K, fun n => if n = 0 then zaa else if n = 1 then zba else zca, fun n => if n = 0 then zda else if n = 1 then zha else if n = 2 then zla else zpa, fun n => if n = 0 then "at" else if n = 1 then "at" else if n = 2 then "at" else "word"⟩ P w mg base 3 "bet_told" 1 [] F_bet_told := fn_mk1 (ok_bet_told FF_bet_told TT zrdb zkdb) (mark_defn _ _) (PySem.W.mg_of X G zlz) zoz B_bet_told
  have zudb : Fn ⟨K, fun n => if n = 0 then zaa else if n = 1 then zba else zca, fun n => if n = 0 then zda else if n = 1 then zha else if n = 2 then zla else zpa, fun n => if n = 0 then "at" else if n = 1 then "at" else if n = 2 then "at" else "word"⟩ P w mg base 4 "_offer_told" 1 [] F__offer_told := fn_mk1 (ok__offer_told FF__offer_told TT ztdb zldb) (mark_defn _ _) (PySem.W.mg_of X G zpz) zsz B__offer_told
  have zvdb : Fn ⟨K, fun n => if n = 0 then zaa else if n = 1 then zba else zca, fun n => if n = 0 then zda else if n = 1 then zha else if n = 2 then zla else zpa, fun n => if n = 0 then "at" else if n = 1 then "at" else if n = 2 then "at" else "word"⟩ P w mg base 5 "offers_told" 1 [] F_offers_told := fn_mk1 (ok_offers_told FF_offers_told TT zudb) (mark_defn _ _) (PySem.W.mg_of X G ztz) zwz B_offers_told
  have zwdb : Fn ⟨K, fun n => if n = 0 then zaa else if n = 1 then zba else zca, fun n => if n = 0 then zda else if n = 1 then zha else if n = 2 then zla else zpa, fun n => if n = 0 then "at" else if n = 1 then "at" else if n = 2 then "at" else "word"⟩ P w mg base 6 "_bet_and_offers_told" 1 [] F__bet_and_offers_told := fn_mk1 (ok__bet_and_offers_told FF__bet_and_offers_told TT ztdb zvdb) (mark_defn _ _) (PySem.W.mg_of X G zxz) zaab B__bet_and_offers_told
  have zxdb : Fn ⟨K, fun n => if n = 0 then zaa else if n = 1 then zba else zca, fun n => if n = 0 then zda else if n = 1 then zha else if n = 2 then zla else zpa, fun n => if n = 0 then "at" else if n = 1 then "at" else if n = 2 then "at" else "word"⟩ P w mg base 7 "_told_behind_name" 2 [] F__told_behind_name := fn_mk1 (ok__told_behind_name FF__told_behind_name TT zsdb zwdb zvdb) (mark_defn _ _) (PySem.W.mg_of X G zbab) zeab B__told_behind_name
  have zydb : Fn ⟨K, fun n => if n = 0 then zaa else if n = 1 then zba else zca, fun n => if n = 0 then zda else if n = 1 then zha else if n = 2 then zla else zpa, fun n => if n = 0 then "at" else if n = 1 then "at" else if n = 2 then "at" else "word"⟩ P w mg base 8 "_task" 1 [] F__task := fn_mk1 (ok__task FF__task TT zpdb zqdb zxdb zddb) (mark_defn _ _) (PySem.W.mg_of X G zfab) ziab B__task
  have zzdb : Fn ⟨K, fun n => if n = 0 then zaa else if n = 1 then zba else zca, fun n => if n = 0 then zda else if n = 1 then zha else if n = 2 then zla else zpa, fun n => if n = 0 then "at" else if n = 1 then "at" else if n = 2 then "at" else "word"⟩ P w mg base 1 "is_integer" 1 [] F_is_integer := fn_mk1 (ok_is_integer FF_is_integer TT) (mark_defn _ _) (PySem.W.mg_of X G zjab) zmab B_is_integer
  have zaeb : Fn ⟨K, fun n => if n = 0 then zaa else if n = 1 then zba else zca, fun n => if n = 0 then zda else if n = 1 then zha else if n = 2 then zla else zpa, fun n => if n = 0 then "at" else if n = 1 then "at" else if n = 2 then "at" else "word"⟩ P w mg base 2 "is_integer_within" 3 [] F_is_integer_within := fn_mk1 (ok_is_integer_within FF_is_integer_within TT zzdb) (mark_defn _ _) (PySem.W.mg_of X G znab) zqab B_is_integer_within
  have zbeb : Fn ⟨K, fun n => if n = 0 then zaa else if n = 1 then zba else zca, fun n => if n = 0 then zda else if n = 1 then zha else if n = 2 then zla else zpa, fun n => if n = 0 then "at" else if n = 1 then "at" else if n = 2 then "at" else "word"⟩ P w mg base 1 "is_sequence" 1 [] F_is_sequence := fn_mk1 (ok_is_sequence FF_is_sequence TT) (mark_defn _ _) (PySem.W.mg_of X G zrab) zuab B_is_sequence
  have zceb : Fn ⟨K, fun n => if n = 0 then zaa else if n = 1 then zba else zca, fun n => if n = 0 then zda else if n = 1 then zha else if n = 2 then zla else zpa, fun n => if n = 0 then "at" else if n = 1 then "at" else if n = 2 then "at" else "word"⟩ P w mg base 3 "_are_runners" 2 [] F__are_runners := fn_mk1 (ok__are_runners FF__are_runners TT zbeb zaeb) (mark_defn _ _) (PySem.W.mg_of X G zvab) zyab B__are_runners
  have zdeb : Fn ⟨K, fun n => if n = 0 then zaa else if n = 1 then zba else zca, fun n => if n = 0 then zda else if n = 1 then zha else if n = 2 then zla else zpa, fun n => if n = 0 then "at" else if n = 1 then "at" else if n = 2 then "at" else "word"⟩ P w mg base 4 "_is_ascending" 2 [] F__is_ascending := fn_mk1 (ok__is_ascending FF__is_ascending TT zceb) (mark_defn _ _) (PySem.W.mg_of X G zzab) zcbb B__is_ascending
  have zeeb : Fn ⟨K, fun n => if n = 0 then zaa else if n = 1 then zba else zca, fun n => if n = 0 then zda else if n = 1 then zha else if n = 2 then zla else zpa, fun n => if n = 0 then "at" else if n = 1 then "at" else if n = 2 then "at" else "word"⟩ P w mg base 3 "_are_cuts" 2 [] F__are_cuts := fn_mk1 (ok__are_cuts FF__are_cuts TT zbeb zaeb) (mark_defn _ _) (PySem.W.mg_of X G zdbb) zgbb B__are_cuts
  have zfeb : FnI ⟨K, fun n => if n = 0 then zaa else if n = 1 then zba else zca, fun n => if n = 0 then zda else if n = 1 then zha else if n = 2 then zla else zpa, fun n => if n = 0 then "at" else if n = 1 then "at" else if n = 2 then "at" else "word"⟩ P w mg base 5 "Race" 0 5 [] F_Race_init := ⟨⟨_, _, _, _, _, (ok_Race_init zedb TT zaeb zdeb zeeb), ⟨zus, zhbb, zibb, zvs⟩, PySem.W.mg_of X G zns, B_Race_init_o0, dv_Race_init_o0, fun _ _ => .nil⟩, mark_defn _ _⟩
  have zgeb : FnI ⟨K, fun n => if n = 0 then zaa else if n = 1 then zba else zca, fun n => if n = 0 then zda else if n = 1 then zha else if n = 2 then zla else zpa, fun n => if n = 0 then "at" else if n = 1 then "at" else if n = 2 then "at" else "word"⟩ P w mg base 5 "Race" 0 5 [.tup []] F_Race_init := ⟨⟨_, _, _, _, _, (ok_Race_init zedb TT zaeb zdeb zeeb), ⟨zus, zhbb, zibb, zvs⟩, PySem.W.mg_of X G zns, B_Race_init_o1, dv_Race_init_o1, fun _ _ => (.cons (.tup (.inr ⟨_, _, _, zmbb, rfl, rfl, Nat.zero_le _, .nil⟩) .nil) .nil)⟩, mark_defn _ _⟩
  have zheb : FnI ⟨K, fun n => if n = 0 then zaa else if n = 1 then zba else zca, fun n => if n = 0 then zda else if n = 1 then zha else if n = 2 then zla else zpa, fun n => if n = 0 then "at" else if n = 1 then "at" else if n = 2 then "at" else "word"⟩ P w mg base 5 "Race" 0 5 [.tup [], .tup []] F_Race_init := ⟨⟨_, _, _, _, _, (ok_Race_init zedb TT zaeb zdeb zeeb), ⟨zus, zhbb, zibb, zvs⟩, PySem.W.mg_of X G zns, B_Race_init_o2, dv_Race_init_o2, fun _ _ => (.cons (.tup (.inr ⟨_, _, _, zlbb, rfl, rfl, Nat.zero_le _, .nil⟩) .nil) (.cons (.tup (.inr ⟨_, _, _, zmbb, rfl, rfl, Nat.zero_le _, .nil⟩) .nil) .nil))⟩, mark_defn _ _⟩
  have zieb : FnI ⟨K, fun n => if n = 0 then zaa else if n = 1 then zba else zca, fun n => if n = 0 then zda else if n = 1 then zha else if n = 2 then zla else zpa, fun n => if n = 0 then "at" else if n = 1 then "at" else if n = 2 then "at" else "word"⟩ P w mg base 5 "Race" 0 5 [.bl true, .tup [], .tup []] F_Race_init := ⟨⟨_, _, _, _, _, (ok_Race_init zedb TT zaeb zdeb zeeb), ⟨zus, zhbb, zibb, zvs⟩, PySem.W.mg_of X G zns, B_Race_init_o3, dv_Race_init_o3, fun _ _ => (.cons (.bl _) (.cons (.tup (.inr ⟨_, _, _, zlbb, rfl, rfl, Nat.zero_le _, .nil⟩) .nil) (.cons (.tup (.inr ⟨_, _, _, zmbb, rfl, rfl, Nat.zero_le _, .nil⟩) .nil) .nil)))⟩, mark_defn _ _⟩
  have zjeb : FnM ⟨K, fun n => if n = 0 then zaa else if n = 1 then zba else zca, fun n => if n = 0 then zda else if n = 1 then zha else if n = 2 then zla else zpa, fun n => if n = 0 then "at" else if n = 1 then "at" else if n = 2 then "at" else "word"⟩ P w mg base 7 "_worked_out" 2 2 F_Console_worked_out := ⟨⟨_, _, _, (ok_Console_worked_out FF_Console_worked_out TT zfeb zddb), ⟨zpbb, zqbb, ztbb⟩, B_Console_worked_out⟩, mark_defn _ _⟩
  have zkeb : FnM ⟨K, fun n => if n = 0 then zaa else if n = 1 then zba else zca, fun n => if n = 0 then zda else if n = 1 then zha else if n = 2 then zla else zpa, fun n => if n = 0 then "at" else if n = 1 then "at" else if n = 2 then "at" else "word"⟩ P w mg base 9 "_answer" 2 2 F_Console_answer := ⟨⟨_, _, _, (ok_Console_answer FF_Console_answer TT zjeb), ⟨zubb, zvbb, zybb⟩, B_Console_answer⟩, mark_defn _ _⟩
  have zleb : FnM ⟨K, fun n => if n = 0 then zaa else if n = 1 then zba else zca, fun n => if n = 0 then zda else if n = 1 then zha else if n = 2 then zla else zpa, fun n => if n = 0 then "at" else if n = 1 then "at" else if n = 2 then "at" else "word"⟩ P w mg base 11 "_repeat" 2 3 F_Console_repeat := ⟨⟨_, _, _, (ok_Console_repeat FF_Console_repeat TT zkeb), ⟨zzbb, zacb, zdcb⟩, B_Console_repeat⟩, mark_defn _ _⟩
  have zmeb : FnS ⟨K, fun n => if n = 0 then zaa else if n = 1 then zba else zca, fun n => if n = 0 then zda else if n = 1 then zha else if n = 2 then zla else zpa, fun n => if n = 0 then "at" else if n = 1 then "at" else if n = 2 then "at" else "word"⟩ P w mg base 13 "replayed" 2 1 F_Console_replayed := ⟨⟨_, _, _, _, _, (ok_Console_replayed FF_Console_replayed TT zjdb zydb zleb), zecb, zfcb, zgcb, zhcb, zkcb, B_Console_replayed⟩, mark_defn _ _⟩
  have zneb : Fn ⟨K, fun n => if n = 0 then zaa else if n = 1 then zba else zca, fun n => if n = 0 then zda else if n = 1 then zha else if n = 2 then zla else zpa, fun n => if n = 0 then "at" else if n = 1 then "at" else if n = 2 then "at" else "word"⟩ P w mg base 15 "_law_replay_fault" 1 [] F__law_replay_fault := fn_mk1 (ok__law_replay_fault FF__law_replay_fault TT zmeb) (mark_defn _ _) (PySem.W.mg_of X G zlcb) zocb B__law_replay_fault
  have zoeb : FnM ⟨K, fun n => if n = 0 then zaa else if n = 1 then zba else zca, fun n => if n = 0 then zda else if n = 1 then zha else if n = 2 then zla else zpa, fun n => if n = 0 then "at" else if n = 1 then "at" else if n = 2 then "at" else "word"⟩ P w mg base 1 "log" 2 1 F_Console_log := ⟨⟨_, _, _, (ok_Console_log FF_Console_log TT), ⟨zpcb, zqcb, ztcb⟩, B_Console_log⟩, mark_defn _ _⟩
  have zpeb : Fn ⟨K, fun n => if n = 0 then zaa else if n = 1 then zba else zca, fun n => if n = 0 then zda else if n = 1 then zha else if n = 2 then zla else zpa, fun n => if n = 0 then "at" else if n = 1 then "at" else if n = 2 then "at" else "word"⟩ P w mg base 1 "_law_text_of" 1 [] F__law_text_of := fn_mk1 (ok__law_text_of FF__law_text_of TT) (mark_defn _ _) (PySem.W.mg_of X G zucb) zxcb B__law_text_of
  have zqeb : Fn ⟨K, fun n => if n = 0 then zaa else if n = 1 then zba else zca, fun n => if n = 0 then zda else if n = 1 then zha else if n = 2 then zla else zpa, fun n => if n = 0 then "at" else if n = 1 then "at" else if n = 2 then "at" else "word"⟩ P w mg base 3 "_law_no_command" 2 [] F__law_no_command := fn_mk1 (ok__law_no_command FF__law_no_command TT zhdb) (mark_defn _ _) (PySem.W.mg_of X G zycb) zbdb B__law_no_command
  exact law_ok LW.G.pure_law (ok_law FF_law TT zfdb zhdb zidb zneb zoeb zpeb zqeb zmeb)
theorem glue {P : Program} {w : World} {K : PySem.W.Frag} {h : Heap} {mg : Str → Option Value} {fa : Addr} (KX : K.In h) (G : h.Ns mainGlobals mg) (hmg : mg "law" = some (.ref fa)) (ct : HK.SaysT LWH.fs LWH.fn LWH.ts w K) : ∃ fd : FuncData, (∀ (s : Shared) (u : Value), BindsTo s fd ⟨[u], []⟩ [("script", u)]) ∧ ∀ base : Heap, K.In base → base.Ns mainGlobals mg → FnOk P w K mg base (L2.CX P w) 16 fa fd ["script"] (spL K) := by
  have c := ct.s
  obtain ⟨_, _, _, _, _, _, _, _, l0, c0, k0⟩ := c.d 0 rfl
  obtain ⟨_, _, _, _, _, _, _, _, l1, c1, k1⟩ := c.d 1 rfl
  obtain ⟨_, _, _, _, _, _, _, _, l2, c2, k2⟩ := c.d 2 rfl
  obtain ⟨_, _, _, _, _, _, _, _, l3, c3, k3⟩ := c.d 3 rfl
  obtain ⟨_, _, _, _, _, _, _, _, l4, c4, k4⟩ := c.d 4 rfl
  obtain ⟨_, _, _, _, _, _, _, _, l5, c5, k5⟩ := c.d 5 rfl
  obtain ⟨_, _, _, _, _, _, _, _, l6, c6, k6⟩ := c.d 6 rfl
  obtain ⟨_, _, _, _, _, _, _, _, l7, c7, k7⟩ := c.d 7 rfl
  obtain ⟨_, _, _, _, _, _, _, _, l8, c8, k8⟩ := c.d 8 rfl
  obtain ⟨_, _, _, _, _, _, _, _, l9, c9, k9⟩ := c.d 9 rfl
  obtain ⟨_, _, _, _, _, _, _, _, l10, c10, k10⟩ := c.d 10 rfl
  obtain ⟨_, _, _, _, _, _, _, _, l11, c11, k11⟩ := c.d 11 rfl
  obtain ⟨_, _, _, _, _, _, _, _, l12, c12, k12⟩ := c.d 12 rfl
  obtain ⟨_, _, _, _, _, _, _, _, l13, c13, k13⟩ := c.d 13 rfl
  obtain ⟨_, _, _, _, _, _, _, _, l14, c14, k14⟩ := c.d 14 rfl
  obtain ⟨_, _, _, _, _, _, _, _, l15, c15, k15⟩ := c.d 15 rfl
  obtain ⟨_, _, _, _, _, _, _, _, l16, c16, k16⟩ := c.d 16 rfl
  obtain ⟨_, _, _, _, _, _, _, _, l17, c17, k17⟩ := c.d 17 rfl
  obtain ⟨_, _, _, _, _, _, _, _, l18, c18, k18⟩ := c.d 18 rfl
  obtain ⟨_, _, _, _, _, _, _, _, l19, c19, k19⟩ := c.d 19 rfl
  obtain ⟨_, _, _, _, _, _, _, _, l20, c20, k20⟩ := c.d 20 rfl
  obtain ⟨_, _, _, _, _, _, _, _, l21, c21, k21⟩ := c.d 21 rfl
  obtain ⟨_, _, _, _, _, _, _, _, l22, c22, k22⟩ := c.d 22 rfl
  obtain ⟨_, _, _, _, _, _, _, _, l23, c23, k23⟩ := c.d 23 rfl
  obtain ⟨_, _, _, _, _, _, _, _, l24, c24, k24⟩ := c.d 24 rfl
  obtain ⟨_, _, _, _, _, _, _, _, l25, c25, k25⟩ := c.d 25 rfl
  obtain ⟨_, _, _, _, _, _, _, _, l26, c26, k26⟩ := c.d 26 rfl
  obtain ⟨_, _, _, _, _, _, _, _, l27, c27, k27⟩ := c.d 27 rfl
  obtain ⟨_, _, _, _, _, _, _, _, l28, c28, k28⟩ := c.d 28 rfl
  obtain ⟨_, _, _, _, _, _, _, _, l29, c29, k29⟩ := c.d 29 rfl
  obtain ⟨_, _, _, _, _, _, _, _, l30, c30, k30⟩ := c.d 30 rfl
  obtain ⟨_, _, _, _, _, _, _, _, l31, c31, k31⟩ := c.d 31 rfl
  obtain ⟨_, _, _, _, _, _, _, _, l32, c32, k32⟩ := c.d 32 rfl
  obtain ⟨_, _, _, _, _, _, _, _, l33, c33, k33⟩ := c.d 33 rfl
  obtain ⟨_, _, _, _, _, _, _, _, l34, c34, k34⟩ := c.d 34 rfl
  obtain ⟨_, _, _, _, _, _, _, _, l35, c35, k35⟩ := c.d 35 rfl
  obtain ⟨_, _, _, _, _, _, _, _, l36, c36, k36⟩ := c.d 36 rfl
  obtain ⟨_, _, _, _, _, _, _, _, l37, c37, k37⟩ := c.d 37 rfl
  obtain ⟨_, _, _, _, _, _, _, _, l38, c38, k38⟩ := c.d 38 rfl
  obtain ⟨_, _, _, _, _, _, _, _, l39, c39, k39⟩ := c.d 39 rfl
  obtain ⟨_, w_k_MOST_DIGITS⟩ := HK.gi_get (c.q 48 rfl)
  obtain ⟨_, w_k_MOST_LETTERS⟩ := HK.gi_get (c.q 49 rfl)
  obtain ⟨_, w_k_MOST_CUT⟩ := HK.gi_get (c.q 50 rfl)
  obtain ⟨_, w_k_MOST_RUNNERS⟩ := HK.gi_get (c.q 51 rfl)
  obtain ⟨_, _, _, _, _, _, _, _, _, _, _, _, _, _, w_x_BadValue⟩ := HK.exo_get (c.q 53 rfl)
  obtain ⟨_, _, _, _, _, _, _, _, _, _, _, _, _, _, w_x_BadOffer⟩ := HK.exo_get (c.q 65 rfl)
  obtain ⟨_, _, _, _, _, _, _, _, _, _, _, _, _, _, w_x_BadSyntax⟩ := HK.exo_get (c.q 77 rfl)
  obtain ⟨_, _, _, _, _, _, _, _, _, _, _, _, _, _, w_x_TooMany⟩ := HK.exo_get (c.q 89 rfl)
  obtain ⟨_, _, _, w_lT_Race_init⟩ := HK.tr_get (c.q 156 rfl)
  obtain ⟨_, _, _, w_le1_Race_init⟩ := HK.tz_get (c.q 157 rfl)
  obtain ⟨_, _, _, w_le2_Race_init⟩ := HK.tz_get (c.q 158 rfl)
  obtain ⟨_, w_pr_Console_replayed⟩ := HK.srp_get (c.q 168 rfl)
  refine' all_mk KX G hmg ?zns ?zos ?zps ?zqs ?zrs ?zss ?zts ?zus ?zvs ?zws ?zxs ?zys ?zzs ?zat ?zbt ?zct ?zdt ?zet ?zft ?zgt ?zht ?zit ?zjt ?zkt ?zlt ?zmt ?znt ?hn ?ht ?z_all ?zot ?zpt ?z_int ?zqt ?z_len ?zrt ?zst ?z_set ?ztt ?z_str ?zut ?z_gcd ?zvt ?zwt ?zxt ?zyt ?zzt ?zau ?k_MOST_DIGITS ?k_MOST_LETTERS ?k_MOST_CUT ?k_MOST_RUNNERS ?zbu ?zcu ?zdu ?zeu ?zfu ?zgu ?zhu ?ziu ?zju ?zku ?zlu ?zmu ?znu ?zou ?zpu ?zqu ?zru ?zsu ?ztu ?zuu ?zvu ?zwu ?zxu ?zyu ?zzu ?zav ?zbv ?zcv ?zdv ?zev ?zfv ?zgv ?zhv ?ziv ?zjv ?zkv ?zlv ?zmv ?znv ?zov ?zpv ?zqv ?zrv ?zsv ?ztv ?zuv ?zvv ?zwv ?zxv ?zyv ?zzv ?zaw ?zbw ?zcw ?zdw ?zew ?zfw ?zgw ?zhw ?ziw ?zjw ?zkw ?zlw ?zmw ?znw ?zow ?zpw ?zqw ?zrw ?zsw ?ztw ?zuw ?zvw ?zww ?zxw ?zyw ?zzw ?zax ?zbx ?zcx ?zdx ?zex ?zfx ?zgx ?zhx ?zix ?zjx ?zkx ?zlx ?zmx ?znx ?zox ?zpx ?zqx ?zrx ?zsx ?ztx ?zux ?zvx ?zwx ?zxx ?zyx ?zzx ?zay ?zby ?zcy ?zdy ?zey ?zfy ?zgy ?zhy ?ziy ?zjy ?zky ?zly ?zmy ?zny ?zoy ?zpy ?zqy ?zry ?zsy ?zty ?zuy ?zvy ?zwy ?zxy ?zyy ?zzy ?zaz ?zbz ?zcz ?zdz ?zez ?zfz ?zgz ?zhz ?ziz ?zjz ?zkz ?zlz ?zmz ?znz ?zoz ?zpz ?zqz ?zrz ?zsz ?ztz ?zuz ?zvz ?zwz ?zxz ?zyz ?zzz ?zaab ?zbab ?zcab ?zdab ?zeab ?zfab ?zgab ?zhab ?ziab ?zjab ?zkab ?zlab ?zmab ?znab ?zoab ?zpab ?zqab ?zrab ?zsab ?ztab ?zuab ?zvab ?zwab ?zxab ?zyab ?zzab ?zabb ?zbbb ?zcbb ?zdbb ?zebb ?zfbb ?zgbb ?zhbb ?zibb ?zjbb ?zkbb ?zlbb ?zmbb ?znbb ?zobb ?zpbb ?zqbb ?zrbb ?zsbb ?ztbb ?zubb ?zvbb ?zwbb ?zxbb ?zybb ?zzbb ?zacb ?zbcb ?zccb ?zdcb ?zecb ?zfcb ?zgcb ?zhcb ?zicb ?zjcb ?zkcb ?zlcb ?zmcb ?zncb ?zocb ?zpcb ?zqcb ?zrcb ?zscb ?ztcb ?zucb ?zvcb ?zwcb ?zxcb ?zycb ?zzcb ?zadb ?zbdb ?a_law ?l_law ?c_law ?zcdb ?zddb
  case zns => exact of_decide_eq_true (c.q 0 rfl)
  case zos => exact c.q 1 rfl
  case zps => exact c.q 2 rfl
  case zqs => exact c.q 3 rfl
  case zrs => exact of_decide_eq_true (c.q 4 rfl)
  case zss => exact of_decide_eq_true (c.q 5 rfl)
  case zts => exact of_decide_eq_true (c.q 6 rfl)
  case zus => exact c.q 7 rfl
  case zvs => exact c.q 8 rfl
  case zws => exact of_decide_eq_true (c.q 9 rfl)
  case zxs => exact c.q 10 rfl
  case zys => exact c.q 11 rfl
  case zzs => exact c.q 12 rfl
  case zat => exact of_decide_eq_true (c.q 13 rfl)
  case zbt => exact of_decide_eq_true (c.q 14 rfl)
  case zct => exact of_decide_eq_true (c.q 15 rfl)
  case zdt => exact c.q 16 rfl
  case zet => exact c.q 17 rfl
  case zft => exact of_decide_eq_true (c.q 18 rfl)
  case zgt => exact c.q 19 rfl
  case zht => exact c.q 20 rfl
  case zit => exact c.q 21 rfl
  case zjt => exact of_decide_eq_true (c.q 22 rfl)
  case zkt => exact of_decide_eq_true (c.q 23 rfl)
  case zlt => exact of_decide_eq_true (c.q 24 rfl)
  case zmt => exact c.q 25 rfl
  case znt => exact c.q 26 rfl
  case hn => exact of_decide_eq_true (c.q 27 rfl)
  case ht => exact of_decide_eq_true (c.q 28 rfl)
  case z_all => exact of_decide_eq_true (c.q 29 rfl)
  case zot => exact of_decide_eq_true (c.q 30 rfl)
  case zpt => exact of_decide_eq_true (c.q 31 rfl)
  case z_int => exact of_decide_eq_true (c.q 32 rfl)
  case zqt => exact of_decide_eq_true (c.q 33 rfl)
  case z_len => exact of_decide_eq_true (c.q 34 rfl)
  case zrt => exact of_decide_eq_true (c.q 35 rfl)
  case zst => exact of_decide_eq_true (c.q 36 rfl)
  case z_set => exact of_decide_eq_true (c.q 37 rfl)
  case ztt => exact of_decide_eq_true (c.q 38 rfl)
  case z_str => exact of_decide_eq_true (c.q 39 rfl)
  case zut => exact of_decide_eq_true (c.q 40 rfl)
  case z_gcd => exact of_decide_eq_true (c.q 41 rfl)
  case zvt => exact of_decide_eq_true (c.q 42 rfl)
  case zwt => exact of_decide_eq_true (c.q 43 rfl)
  case zxt => exact of_decide_eq_true (c.q 44 rfl)
  case zyt => exact of_decide_eq_true (c.q 45 rfl)
  case zzt => exact of_decide_eq_true (c.q 46 rfl)
  case zau => exact of_decide_eq_true (c.q 47 rfl)
  case k_MOST_DIGITS => exact w_k_MOST_DIGITS
  case k_MOST_LETTERS => exact w_k_MOST_LETTERS
  case k_MOST_CUT => exact w_k_MOST_CUT
  case k_MOST_RUNNERS => exact w_k_MOST_RUNNERS
  case zbu => exact of_decide_eq_true (c.q 52 rfl)
  case zcu => exact w_x_BadValue
  case zdu => exact of_decide_eq_true (c.q 54 rfl)
  case zeu => exact of_decide_eq_true (c.q 55 rfl)
  case zfu => exact of_decide_eq_true (c.q 56 rfl)
  case zgu => exact of_decide_eq_true (c.q 57 rfl)
  case zhu => exact c.q 58 rfl
  case ziu => exact of_decide_eq_true (c.q 59 rfl)
  case zju => exact of_decide_eq_true (c.q 60 rfl)
  case zku => exact c.q 61 rfl
  case zlu => exact of_decide_eq_true (c.q 62 rfl)
  case zmu => exact of_decide_eq_true (c.q 63 rfl)
  case znu => exact l0
  case zou => exact c0
  case zpu => exact of_decide_eq_true (c.q 64 rfl)
  case zqu => exact w_x_BadOffer
  case zru => exact of_decide_eq_true (c.q 66 rfl)
  case zsu => exact of_decide_eq_true (c.q 67 rfl)
  case ztu => exact of_decide_eq_true (c.q 68 rfl)
  case zuu => exact of_decide_eq_true (c.q 69 rfl)
  case zvu => exact c.q 70 rfl
  case zwu => exact of_decide_eq_true (c.q 71 rfl)
  case zxu => exact of_decide_eq_true (c.q 72 rfl)
  case zyu => exact c.q 73 rfl
  case zzu => exact of_decide_eq_true (c.q 74 rfl)
  case zav => exact of_decide_eq_true (c.q 75 rfl)
  case zbv => exact l1
  case zcv => exact c1
  case zdv => exact of_decide_eq_true (c.q 76 rfl)
  case zev => exact w_x_BadSyntax
  case zfv => exact of_decide_eq_true (c.q 78 rfl)
  case zgv => exact of_decide_eq_true (c.q 79 rfl)
  case zhv => exact of_decide_eq_true (c.q 80 rfl)
  case ziv => exact of_decide_eq_true (c.q 81 rfl)
  case zjv => exact c.q 82 rfl
  case zkv => exact of_decide_eq_true (c.q 83 rfl)
  case zlv => exact of_decide_eq_true (c.q 84 rfl)
  case zmv => exact c.q 85 rfl
  case znv => exact of_decide_eq_true (c.q 86 rfl)
  case zov => exact of_decide_eq_true (c.q 87 rfl)
  case zpv => exact l2
  case zqv => exact c2
  case zrv => exact of_decide_eq_true (c.q 88 rfl)
  case zsv => exact w_x_TooMany
  case ztv => exact of_decide_eq_true (c.q 90 rfl)
  case zuv => exact of_decide_eq_true (c.q 91 rfl)
  case zvv => exact of_decide_eq_true (c.q 92 rfl)
  case zwv => exact of_decide_eq_true (c.q 93 rfl)
  case zxv => exact c.q 94 rfl
  case zyv => exact of_decide_eq_true (c.q 95 rfl)
  case zzv => exact of_decide_eq_true (c.q 96 rfl)
  case zaw => exact c.q 97 rfl
  case zbw => exact of_decide_eq_true (c.q 98 rfl)
  case zcw => exact of_decide_eq_true (c.q 99 rfl)
  case zdw => exact l3
  case zew => exact c3
  case zfw => exact c.q 100 rfl
  case zgw => exact of_decide_eq_true (c.q 101 rfl)
  case zhw => exact of_decide_eq_true (c.q 102 rfl)
  case ziw => exact of_decide_eq_true (c.q 103 rfl)
  case zjw => exact of_decide_eq_true (c.q 104 rfl)
  case zkw => exact c.q 105 rfl
  case zlw => exact of_decide_eq_true (c.q 106 rfl)
  case zmw => exact of_decide_eq_true (c.q 107 rfl)
  case znw => exact of_decide_eq_true (c.q 108 rfl)
  case zow => exact of_decide_eq_true (c.q 109 rfl)
  case zpw => exact c.q 110 rfl
  case zqw => exact of_decide_eq_true (c.q 111 rfl)
  case zrw => exact of_decide_eq_true (c.q 112 rfl)
  case zsw => exact of_decide_eq_true (c.q 113 rfl)
  case ztw => exact of_decide_eq_true (c.q 114 rfl)
  case zuw => exact c.q 115 rfl
  case zvw => exact of_decide_eq_true (c.q 116 rfl)
  case zww => exact of_decide_eq_true (c.q 117 rfl)
  case zxw => exact of_decide_eq_true (c.q 118 rfl)
  case zyw => exact of_decide_eq_true (c.q 119 rfl)
  case zzw => exact c.q 120 rfl
  case zax => exact of_decide_eq_true (c.q 121 rfl)
  case zbx => exact of_decide_eq_true (c.q 122 rfl)
  case zcx => exact of_decide_eq_true (c.q 123 rfl)
  case zdx => exact of_decide_eq_true (c.q 124 rfl)
  case zex => exact of_decide_eq_true (c.q 125 rfl)
  case zfx => exact of_decide_eq_true (c.q 126 rfl)
  case zgx => exact of_decide_eq_true (c.q 127 rfl)
  case zhx => exact l4
  case zix => exact c4
  case zjx => exact k4
  case zkx => exact of_decide_eq_true (c.q 128 rfl)
  case zlx => exact l5
  case zmx => exact c5
  case znx => exact k5
  case zox => exact of_decide_eq_true (c.q 129 rfl)
  case zpx => exact l6
  case zqx => exact c6
  case zrx => exact k6
  case zsx => exact of_decide_eq_true (c.q 130 rfl)
  case ztx => exact l7
  case zux => exact c7
  case zvx => exact k7
  case zwx => exact of_decide_eq_true (c.q 131 rfl)
  case zxx => exact c.q 132 rfl
  case zyx => exact l8
  case zzx => exact c8
  case zay => exact k8
  case zby => exact of_decide_eq_true (c.q 133 rfl)
  case zcy => exact l9
  case zdy => exact c9
  case zey => exact k9
  case zfy => exact of_decide_eq_true (c.q 134 rfl)
  case zgy => exact l10
  case zhy => exact c10
  case ziy => exact k10
  case zjy => exact of_decide_eq_true (c.q 135 rfl)
  case zky => exact l11
  case zly => exact c11
  case zmy => exact k11
  case zny => exact of_decide_eq_true (c.q 136 rfl)
  case zoy => exact l12
  case zpy => exact c12
  case zqy => exact k12
  case zry => exact of_decide_eq_true (c.q 137 rfl)
  case zsy => exact l13
  case zty => exact c13
  case zuy => exact k13
  case zvy => exact of_decide_eq_true (c.q 138 rfl)
  case zwy => exact l14
  case zxy => exact c14
  case zyy => exact k14
  case zzy => exact of_decide_eq_true (c.q 139 rfl)
  case zaz => exact l15
  case zbz => exact c15
  case zcz => exact k15
  case zdz => exact of_decide_eq_true (c.q 140 rfl)
  case zez => exact l16
  case zfz => exact c16
  case zgz => exact k16
  case zhz => exact of_decide_eq_true (c.q 141 rfl)
  case ziz => exact l17
  case zjz => exact c17
  case zkz => exact k17
  case zlz => exact of_decide_eq_true (c.q 142 rfl)
  case zmz => exact l18
  case znz => exact c18
  case zoz => exact k18
  case zpz => exact of_decide_eq_true (c.q 143 rfl)
  case zqz => exact l19
  case zrz => exact c19
  case zsz => exact k19
  case ztz => exact of_decide_eq_true (c.q 144 rfl)
  case zuz => exact l20
  case zvz => exact c20
  case zwz => exact k20
  case zxz => exact of_decide_eq_true (c.q 145 rfl)
  case zyz => exact l21
  case zzz => exact c21
  case zaab => exact k21
  case zbab => exact of_decide_eq_true (c.q 146 rfl)
  case zcab => exact l22
  case zdab => exact c22
  case zeab => exact k22
  case zfab => exact of_decide_eq_true (c.q 147 rfl)
  case zgab => exact l23
  case zhab => exact c23
  case ziab => exact k23
  case zjab => exact of_decide_eq_true (c.q 148 rfl)
  case zkab => exact l24
  case zlab => exact c24
  case zmab => exact k24
  case znab => exact of_decide_eq_true (c.q 149 rfl)
  case zoab => exact l25
  case zpab => exact c25
  case zqab => exact k25
  case zrab => exact of_decide_eq_true (c.q 150 rfl)
  case zsab => exact l26
  case ztab => exact c26
  case zuab => exact k26
  case zvab => exact of_decide_eq_true (c.q 151 rfl)
  case zwab => exact l27
  case zxab => exact c27
  case zyab => exact k27
  case zzab => exact of_decide_eq_true (c.q 152 rfl)
  case zabb => exact l28
  case zbbb => exact c28
  case zcbb => exact k28
  case zdbb => exact of_decide_eq_true (c.q 153 rfl)
  case zebb => exact l29
  case zfbb => exact c29
  case zgbb => exact k29
  case zhbb => exact of_decide_eq_true (c.q 154 rfl)
  case zibb => exact c.q 155 rfl
  case zjbb => exact l30
  case zkbb => exact w_lT_Race_init
  case zlbb => exact w_le1_Race_init
  case zmbb => exact w_le2_Race_init
  case znbb => exact c30
  case zobb => exact k30
  case zpbb => exact of_decide_eq_true (c.q 159 rfl)
  case zqbb => exact c.q 160 rfl
  case zrbb => exact l31
  case zsbb => exact c31
  case ztbb => exact k31
  case zubb => exact of_decide_eq_true (c.q 161 rfl)
  case zvbb => exact c.q 162 rfl
  case zwbb => exact l32
  case zxbb => exact c32
  case zybb => exact k32
  case zzbb => exact of_decide_eq_true (c.q 163 rfl)
  case zacb => exact c.q 164 rfl
  case zbcb => exact l33
  case zccb => exact c33
  case zdcb => exact k33
  case zecb => exact c.q 165 rfl
  case zfcb => exact of_decide_eq_true (c.q 166 rfl)
  case zgcb => exact HK.stm_get (c.q 167 rfl)
  case zhcb => exact w_pr_Console_replayed
  case zicb => exact l34
  case zjcb => exact c34
  case zkcb => exact k34
  case zlcb => exact of_decide_eq_true (c.q 169 rfl)
  case zmcb => exact l35
  case zncb => exact c35
  case zocb => exact k35
  case zpcb => exact of_decide_eq_true (c.q 170 rfl)
  case zqcb => exact c.q 171 rfl
  case zrcb => exact l36
  case zscb => exact c36
  case ztcb => exact k36
  case zucb => exact of_decide_eq_true (c.q 172 rfl)
  case zvcb => exact l37
  case zwcb => exact c37
  case zxcb => exact k37
  case zycb => exact of_decide_eq_true (c.q 173 rfl)
  case zzcb => exact l38
  case zadb => exact c38
  case zbdb => exact k38
  case a_law => exact of_decide_eq_true (c.q 174 rfl)
  case l_law => exact l39
  case c_law => exact c39
  case zcdb => exact k39
  case zddb => exact dkX_of (PySem.W.mg_of KX G (of_decide_eq_true (c.q 175 rfl))) (ct.tab 0 rfl)
end LW
open PySem PySem.W PySem.Calls PyProof.Rows in
set_option maxRecDepth 100000 in
set_option maxHeartbeats 0 in
theorem PySem.Challenge.cw_racebooks_k73_logs_that_are_wrong_holds : PySem.Challenge.rw_racebooks_k73_logs_that_are_wrong.Holds := by
  w_on; o_law
  refine HandSHeadRun.head_imp (r := LWH.R) (q := LWH.qv) (H := HK.hookT 5 LWH.fs LWH.fn LWH.ts) (ob := HK.lookT 5 LWH.fs LWH.fn LWH.ts) (M := 12000) (loose := LWH.names) (d := HandSHeadRun.topDef LWH.R.prog 136) (kwd := []) (HK.lookT_eq 5 LWH.fs LWH.fn LWH.ts)
    LWH.run (by kernel_rfl) (by kernel_rfl) (by kernel_rfl) (by rfl) (by first | assumption | decide +kernel) (by decide +kernel) ⟨rfl, rfl, rfl, rfl, rfl, by decide +kernel⟩ ?hw ?hc
  case hw => w_witness2
  case hc =>
    refine HK.tie (l := PySem.Challenge.rw_racebooks_k73_logs_that_are_wrong) (n := 63) (k := 16) (x := "script") (CX := fun w => L2.CX (PySem.Challenge.rw_racebooks_k73_logs_that_are_wrong).prog w) rfl (by decide) (by kernel_rfl) ⟨rfl, by decide, by decide⟩ ?F (fun w H s e t z => by
      obtain ⟨_, _, _, _, _, _, _, _, _, _, _, _, y⟩ := z
      exact y.elim)
    intro w mg fa h Y G hmg0
    obtain ⟨K, KX, c⟩ := Y
    have hmg : mg ("law" : PySem.Str) = some (.ref fa) := by
      have en : (HandSHeadRun.topDef LWH.R.prog 136).name = ("law" : PySem.Str) := by kernel_rfl
      rw [en] at hmg0
      exact hmg0
    obtain ⟨fd, hb, hF⟩ := LW.glue (P := (PySem.Challenge.rw_racebooks_k73_logs_that_are_wrong).prog) (w := w) KX G hmg c
    exact ⟨K, fd, RB.spL K, KX, hb, fun H a ns hl hbits on sq => ⟨a, ns, rfl, sq, on, hl, hbits, fun _ => rfl⟩, hF⟩
#print axioms PySem.Challenge.cw_racebooks_k73_logs_that_are_wrong_holds
