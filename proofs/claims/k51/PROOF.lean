import PyProof.Rows.All
import Wide.All
import OpenK.AllK
import Wide.FinOn
import HandS.ForMost
import HandS.ForExc
import HandS.TupAny
import HandS.TupMul
import HandS.Gcd
import HandS.IsInst
import HandS.Deep
import HandS.Property
import HandS.ExcInit
import HandS.Flow
import HandS.Wide
import HandS.Conv
import HandS.Zip
import HandS.SetFor
import HandS.MakeKw
import HandS.CallSlots
import HandS.SortInts
import HandS.HotCalls
import HandS.Strs
import HandS.WideBits
import HandS.EndBits
import HandS.Defaults
import HandS.Style
import KE.SortData
import HandS.MakeKwOnly
import HandS.RepeatKit
import HandS.DictTup
import HandS.More
import HandS.ExcValue
import HandS.ExcOwn
import KE.KRevSl
import KE.KMathGC
import HandS.Zip0
import PySem.Challenge.RW_racebooks_k51_rows_that_come_of_stakes
set_option Elab.async false
set_option linter.all false
set_option maxRecDepth 100000
set_option maxHeartbeats 4000000
namespace RB
open PySem PySem.Spec PyProof.Rows L2

/-- a value: what never changes is told by its parts; a list or an instance by its number in the store -/
inductive W where
  | non | bl (b : Bool) | int (i : Int) | str (x : Str) | tup (ws : List W) | ref (n : Nat)
inductive Cell where
  /-- a list -/
  | lst (ws : List W)
  /-- a list that is only read -/
  | scr (ws : List W)
  /-- an instance of the class with this number -/
  | ins (c : Nat) (fs : List (Str × W))
/-- the cells; d: from which cell on a cell may speak of a later one -/
structure Sto where
  c : List Cell
  d : Option Nat
abbrev Lo := List (Option W)
/-- how a piece ends: with a value, with an own error (its class, what it carries), or outside what is served -/
inductive Res (α : Type) where
  | ok (a : α) (st : Sto)
  | exc (c : Nat) (p : W) (st : Sto)
  | err
def Res.bind {α β : Type} (r : Res α) (k : α → Sto → Res β) : Res β :=
  match r with
  | .ok a st => k a st
  | .exc c p st => .exc c p st
  | .err => .err
abbrev Ev := Lo → Sto → Res W
abbrev Bv := Lo → Sto → Res Bool
abbrev Evs := Lo → Sto → Res (List W)
inductive RS where
  | nx (l : Lo) (st : Sto) | rt (w : W) (st : Sto) | bk (l : Lo) (st : Sto) | ct (l : Lo) (st : Sto) | exc (c : Nat) (p : W) (l : Lo) (st : Sto) | err
abbrev Sx := Lo → Sto → RS

/-- what the top has written: the part K, where the classes stand, what their errors carry -/
structure Gm where
  K : PySem.W.Frag
  cl : Nat → Addr
  ec : Nat → Addr
  fld : Nat → Str

mutual
inductive Rep (K : PySem.W.Frag) (μ : List Addr) (H : Hp) : W → V → Prop
  | non : Rep K μ H .non .non
  | bl (b : Bool) : Rep K μ H (.bl b) (.bl b)
  | int (i : Int) : Rep K μ H (.int i) (.int i)
  | str (x : Str) : Rep K μ H (.str x) (.str x)
  | tup {a : Addr} {ws : List W} {xs : List V} : SqT K H a xs → Reps K μ H ws xs → Rep K μ H (.tup ws) (.ref a)
  | ref {n : Nat} {a : Addr} : μ[n]? = some a → Rep K μ H (.ref n) (.ref a)
inductive Reps (K : PySem.W.Frag) (μ : List Addr) (H : Hp) : List W → List V → Prop
  | nil : Reps K μ H [] []
  | cons {w : W} {v : V} {ws : List W} {vs : List V} : Rep K μ H w v → Reps K μ H ws vs → Reps K μ H (w :: ws) (v :: vs)
end

/-- what goes on standing -/
structure Ext (K : PySem.W.Frag) (μ μ' : List Addr) (H H' : Hp) : Prop where
  pre : ∀ (i : Nat) a, μ[i]? = some a → μ'[i]? = some a
  tup : ∀ a xs, SqT K H a xs → SqT K H' a xs

section
variable {K : PySem.W.Frag} {μ μ' μ'' : List Addr} {H H' H'' : Hp}
theorem Ext.refl : Ext K μ μ H H := ⟨fun _ _ h => h, fun _ _ h => h⟩
theorem Ext.trans (a : Ext K μ μ' H H') (b : Ext K μ' μ'' H' H'') : Ext K μ μ'' H H'' := ⟨fun i x h => b.pre i x (a.pre i x h), fun x y h => b.tup x y (a.tup x y h)⟩
mutual
theorem Rep.mono (e : Ext K μ μ' H H') : ∀ {w : W} {v : V}, Rep K μ H w v → Rep K μ' H' w v
  | _, _, .non => .non
  | _, _, .bl b => .bl b
  | _, _, .int b => .int b
  | _, _, .str b => .str b
  | _, _, .tup h r => .tup (e.tup _ _ h) (Reps.mono e r)
  | _, _, .ref h => .ref (e.pre _ _ h)
theorem Reps.mono (e : Ext K μ μ' H H') : ∀ {w : List W} {v : List V}, Reps K μ H w v → Reps K μ' H' w v
  | _, _, .nil => .nil
  | _, _, .cons a b => .cons (Rep.mono e a) (Reps.mono e b)
end
theorem Reps.length : ∀ {ws : List W} {vs : List V}, Reps K μ H ws vs → ws.length = vs.length
  | _, _, .nil => rfl
  | _, _, .cons _ b => congrArg (· + 1) (Reps.length b)
theorem Reps.get : ∀ {ws : List W} {vs : List V} {i : Nat} {w : W}, Reps K μ H ws vs → ws[i]? = some w → ∃ v, vs[i]? = some v ∧ Rep K μ H w v
  | _, _, _, _, .nil, e => by simp at e
  | _, _, 0, _, .cons r _, e => by simp at e; subst e; exact ⟨_, rfl, r⟩
  | _, _, i + 1, w, .cons _ t, e => by
    obtain ⟨u, h1, h2⟩ := Reps.get (i := i) (w := w) t (by simpa using e)
    exact ⟨u, by simpa using h1, h2⟩
theorem Reps.append : ∀ {xs ys : List W} {us ws : List V}, Reps K μ H xs us → Reps K μ H ys ws → Reps K μ H (xs ++ ys) (us ++ ws)
  | _, _, _, _, .nil, s => s
  | _, _, _, _, .cons r t, s => .cons r (Reps.append t s)
theorem Reps.take : ∀ {xs : List W} {us : List V} (n : Nat), Reps K μ H xs us → Reps K μ H (xs.take n) (us.take n)
  | _, _, 0, _ => by simpa using Reps.nil
  | _, _, _ + 1, .nil => .nil
  | _, _, n + 1, .cons r t => .cons r (Reps.take n t)
theorem Reps.drop : ∀ {xs : List W} {us : List V} (n : Nat), Reps K μ H xs us → Reps K μ H (xs.drop n) (us.drop n)
  | _, _, 0, r => by simpa using r
  | _, _, _ + 1, .nil => .nil
  | _, _, n + 1, .cons _ t => by simpa using Reps.drop n t
theorem Reps.set {w : W} {v : V} (r : Rep K μ H w v) : ∀ {xs : List W} {us : List V} (i : Nat), Reps K μ H xs us → Reps K μ H (xs.set i w) (us.set i v)
  | _, _, _, .nil => .nil
  | _, _, 0, .cons _ t => .cons r t
  | _, _, i + 1, .cons q t => .cons q (Reps.set r i t)
theorem Reps.eraseIdx : ∀ {xs : List W} {us : List V} (i : Nat), Reps K μ H xs us → Reps K μ H (xs.eraseIdx i) (us.eraseIdx i)
  | _, _, _, .nil => .nil
  | _, _, 0, .cons _ t => t
  | _, _, i + 1, .cons q t => .cons q (Reps.eraseIdx i t)
theorem Reps.reverse : ∀ {xs : List W} {us : List V}, Reps K μ H xs us → Reps K μ H xs.reverse us.reverse
  | _, _, .nil => .nil
  | _, _, .cons r t => by rw [List.reverse_cons, List.reverse_cons]; exact (Reps.reverse t).append (.cons r .nil)
theorem Reps.ints : ∀ {ns : List Int} {vs : List V}, Reps K μ H (ns.map W.int) vs → vs = ns.map V.int
  | [], _, .nil => rfl
  | n :: ns, _, .cons r t => by cases r; rw [Reps.ints t]; rfl
theorem Reps.of_ints (ns : List Int) : Reps K μ H (ns.map W.int) (ns.map V.int) := by
  induction ns with
  | nil => exact .nil
  | cons n ns ih => exact .cons (.int n) ih
theorem Reps.snoc {ws : List W} {vs : List V} {w : W} {v : V} (r : Reps K μ H ws vs) (h : Rep K μ H w v) : Reps K μ H (ws ++ [w]) (vs ++ [v]) := r.append (.cons h .nil)

/-- fields -/
def FRep (K : PySem.W.Frag) (μ : List Addr) (H : Hp) (fs : List (Str × W)) (gs : List (Str × V)) : Prop := Paired (fun (p : Str × W) (q : Str × V) => p.1 = q.1 ∧ Rep K μ H p.2 q.2) fs gs
theorem FRep.mono (e : Ext K μ μ' H H') {fs : List (Str × W)} {gs : List (Str × V)} (h : FRep K μ H fs gs) : FRep K μ' H' fs gs := Paired.mapP h fun _ _ z => ⟨z.1, z.2.mono e⟩
end

/-- a list of the written part -/
def WrL (K : PySem.W.Frag) (a : Addr) (xs : List V) : Prop :=
  ∃ (o : Obj) (its : Array Value) (n : Nat), K.lookup a = some o ∧ o.cls = .type "list" ∧ o.dict = none ∧ o.data = .seq its n ∧ its.size ≤ sizeLine ∧ Vals xs its.toList
/-- what stands at a for a cell -/
def CellOk (Γ : Gm) (μ : List Addr) (H : Hp) (a : Addr) : Cell → Prop
  | .lst ws => ∃ xs, H a = some (.lst xs) ∧ Reps Γ.K μ H ws xs
  | .scr ws => ∃ xs, (WrL Γ.K a xs ∨ ∃ o, H a = some (.frz o (.lst xs))) ∧ Reps Γ.K μ H ws xs
  | .ins c fs => ∃ dx gs, H a = some (.ins (Γ.cl c) dx gs) ∧ FRep Γ.K μ H fs gs
def Cell.own : Cell → Bool
  | .scr _ => false
  | _ => true
mutual
/-- speaks of cells low n alone -/
def W.low (n : Nat) : W → Bool
  | .ref k => decide (k < n)
  | .tup ws => W.lows n ws
  | _ => true
def W.lows (n : Nat) : List W → Bool
  | [] => true
  | w :: ws => W.low n w && W.lows n ws
end
def Cell.low (n : Nat) : Cell → Bool
  | .lst ws => W.lows n ws
  | .scr ws => W.lows n ws
  | .ins _ fs => W.lows n (fs.map (·.2))
structure Sim (Γ : Gm) (μ : List Addr) (st : Sto) (H : Hp) : Prop where
  len : μ.length = st.c.length
  inj : ∀ (i j : Nat) a c d, st.c[i]? = some c → st.c[j]? = some d → c.own = true → d.own = true → μ[i]? = some a → μ[j]? = some a → i = j
  cell : ∀ (i : Nat) c a, st.c[i]? = some c → μ[i]? = some a → CellOk Γ μ H a c
  back : ∀ (i : Nat) c, st.c[i]? = some c → (∀ k, st.d = some k → i < k) → c.low i = true
def LRep (K : PySem.W.Frag) (μ : List Addr) (H : Hp) (l : Lo) (σ : L2.St) : Prop := l.length = σ.length ∧ ∀ (i : Nat) w, l[i]? = some (some w) → ∃ v, σ[i]? = some (some v) ∧ Rep K μ H w v
section
variable {K : PySem.W.Frag} {Γ : Gm} {μ μ' μ'' : List Addr} {H H' H'' : Hp} {l : Lo} {σ : L2.St} {st st' : Sto} {a p : Addr}
theorem LRep.mono (e : Ext K μ μ' H H') (h : LRep K μ H l σ) : LRep K μ' H' l σ := ⟨h.1, fun i w q => let ⟨v, a, b⟩ := h.2 i w q; ⟨v, a, b.mono e⟩⟩
theorem LRep.set {w : W} {v : V} (h : LRep K μ H l σ) (r : Rep K μ H w v) (i : Nat) : LRep K μ H (l.set i (some w)) (σ.set i (some v)) := by
  refine ⟨by simp [h.1], fun j w' q => ?_⟩
  by_cases hj : i = j
  · subst hj
    by_cases hl : i < l.length
    · rw [List.getElem?_set_self hl] at q
      cases q
      exact ⟨v, by rw [List.getElem?_set_self (by rw [← h.1]; exact hl)], r⟩
    · rw [List.getElem?_eq_none (by simpa using hl)] at q; cases q
  · rw [List.getElem?_set_ne hj] at q
    obtain ⟨v', h1, h2⟩ := h.2 j w' q
    exact ⟨v', by rw [List.getElem?_set_ne hj]; exact h1, h2⟩
theorem LRep.gone (h : LRep K μ H l σ) (i : Nat) : LRep K μ H (l.set i none) (σ.set i none) := by
  refine ⟨by simp [h.1], fun j w' q => ?_⟩
  by_cases hj : i = j
  · subst hj
    by_cases hl : i < l.length
    · rw [List.getElem?_set_self hl] at q; cases q
    · rw [List.getElem?_eq_none (by simpa using hl)] at q; cases q
  · rw [List.getElem?_set_ne hj] at q
    obtain ⟨v', h1, h2⟩ := h.2 j w' q
    exact ⟨v', by rw [List.getElem?_set_ne hj]; exact h1, h2⟩
def wipeL (l : Lo) : List Nat → Lo
  | [] => l
  | v :: vs => (wipeL l vs).set v none
theorem LRep.wipe (h : LRep K μ H l σ) : ∀ vs, LRep K μ H (wipeL l vs) (L2.wipe σ vs)
  | [] => h
  | v :: vs => (LRep.wipe h vs).gone v

theorem sqT_upd {o : HO} (h : SqT K H a xs) (hp : H p = none ∨ ∃ ys, H p = some (.lst ys)) : SqT K (upd H p o) a xs := by
  have ne : ∀ {u : HO}, H a = some u → (∀ ys, u ≠ .lst ys) → a ≠ p := fun {u} e nl z => by
    subst z
    rcases hp with q | ⟨ys, q⟩
    · rw [q] at e; cases e
    · rw [q] at e; cases e; exact nl ys rfl
  rcases h with (h | ⟨ob, h⟩) | h
  · exact .inl (.inl (by rw [upd_ne (ne h fun _ z => by cases z)]; exact h))
  · exact .inl (.inr ⟨ob, by rw [upd_ne (ne h fun _ z => by cases z)]; exact h⟩)
  · exact .inr h
/-- a new object, or a list written -/
theorem ext_upd {o : HO} (hp : H p = none ∨ ∃ ys, H p = some (.lst ys)) : Ext K μ μ H (upd H p o) := ⟨fun _ _ h => h, fun _ _ h => sqT_upd h hp⟩
theorem ext_new {o : HO} (hp : H p = none) : Ext K μ (μ ++ [a]) H (upd H p o) := ⟨fun i x h => by
  have := (List.getElem?_eq_some_iff.mp h).1
  rw [List.getElem?_append_left this]; exact h, fun _ _ h => sqT_upd h (.inl hp)⟩
theorem CellOk.kept {c : Cell} {o : HO} (h : CellOk Γ μ H a c) (e : Ext Γ.K μ μ' H (upd H p o)) (hp : H p = none ∨ (∃ ys, H p = some (.lst ys)) ∧ (c.own = true → a ≠ p)) : CellOk Γ μ' (upd H p o) a c := by
  have keep : ∀ {u : HO}, H a = some u → (c.own = true ∨ ∀ ys, u ≠ .lst ys) → upd H p o a = some u := fun {u} q nl => by
    rw [upd_ne]
    · exact q
    · intro z
      subst z
      rcases hp with r | ⟨⟨ys, r⟩, s⟩
      · rw [r] at q; cases q
      · rcases nl with nl | nl
        · exact s nl rfl
        · rw [r] at q; cases q; exact nl ys rfl
  cases c with
  | lst ws => obtain ⟨xs, h1, h2⟩ := h; exact ⟨xs, keep h1 (.inl rfl), h2.mono e⟩
  | scr ws =>
    obtain ⟨xs, h1, h2⟩ := h
    refine ⟨xs, ?_, h2.mono e⟩
    rcases h1 with h1 | ⟨ob, h1⟩
    · exact .inl h1
    · exact .inr ⟨ob, keep h1 (.inr fun _ z => by cases z)⟩
  | ins c fs => obtain ⟨dx, gs, h1, h2⟩ := h; exact ⟨dx, gs, keep h1 (.inl rfl), h2.mono e⟩
theorem CellOk.ext {c : Cell} (h : CellOk Γ μ H a c) (e : Ext Γ.K μ μ' H H) : CellOk Γ μ' H a c := by
  cases c with
  | lst ws => obtain ⟨xs, h1, h2⟩ := h; exact ⟨xs, h1, h2.mono e⟩
  | scr ws => obtain ⟨xs, h1, h2⟩ := h; exact ⟨xs, h1, h2.mono e⟩
  | ins c fs => obtain ⟨dx, gs, h1, h2⟩ := h; exact ⟨dx, gs, h1, h2.mono e⟩
theorem CellOk.some_ {c : Cell} (h : CellOk Γ μ H a c) (hc : c.own = true) : ∃ u, H a = some u := by
  cases c with
  | lst ws => obtain ⟨xs, h1, h2⟩ := h; exact ⟨_, h1⟩
  | scr ws => cases hc
  | ins c fs => obtain ⟨dx, gs, h1, h2⟩ := h; exact ⟨_, h1⟩
mutual
theorem Rep.low {K : PySem.W.Frag} {n : Nat} {v : V} : ∀ {w : W}, Rep K μ H w v → μ.length ≤ n → W.low n w = true
  | .non, .non, _ => rfl
  | .bl b, .bl _, _ => rfl
  | .int b, .int _, _ => rfl
  | .str b, .str _, _ => rfl
  | .tup ws, .tup a b, h => by simp [W.low]; exact Reps.low b h
  | .ref k, .ref a, h => by
    have := (List.getElem?_eq_some_iff.mp a).1
    simp [W.low]; omega
theorem Reps.low {K : PySem.W.Frag} {n : Nat} : ∀ {ws : List W} {vs : List V}, Reps K μ H ws vs → μ.length ≤ n → W.lows n ws = true
  | [], _, .nil, _ => rfl
  | w :: ws, _, .cons a b, h => by simp [W.lows]; exact ⟨Rep.low a h, Reps.low b h⟩
end
mutual
/-- no list and no instance in it -/
def W.pure : W → Bool
  | .ref _ => false
  | .tup ws => W.pures ws
  | _ => true
def W.pures : List W → Bool
  | [] => true
  | w :: ws => W.pure w && W.pures ws
end
mutual
theorem Rep.pure {K : PySem.W.Frag} {v : V} : ∀ {w : W}, W.pure w = true → Rep K μ H w v → Rep K μ' H w v
  | .non, _, .non => .non
  | .bl b, _, .bl _ => .bl b
  | .int b, _, .int _ => .int b
  | .str b, _, .str _ => .str b
  | .tup ws, h, .tup a b => .tup a (Reps.pure (by simpa [W.pure] using h) b)
  | .ref _, h, _ => by simp [W.pure] at h
theorem Reps.pure {K : PySem.W.Frag} : ∀ {ws : List W} {vs : List V}, W.pures ws = true → Reps K μ H ws vs → Reps K μ' H ws vs
  | [], _, _, .nil => .nil
  | w :: ws, _, h, .cons a b => by
    simp [W.pures] at h
    exact .cons (Rep.pure h.1 a) (Reps.pure h.2 b)
end
mutual
theorem W.pure_low {n : Nat} : ∀ {w : W}, W.pure w = true → W.low n w = true
  | .non, _ => rfl
  | .bl b, _ => rfl
  | .int b, _ => rfl
  | .str b, _ => rfl
  | .tup ws, h => by simp [W.low]; exact W.pures_low (by simpa [W.pure] using h)
  | .ref _, h => by simp [W.pure] at h
theorem W.pures_low {n : Nat} : ∀ {ws : List W}, W.pures ws = true → W.lows n ws = true
  | [], _ => rfl
  | w :: ws, h => by
    simp [W.pures] at h
    simp [W.lows]
    exact ⟨W.pure_low h.1, W.pures_low h.2⟩
end
mutual
theorem Rep.cut {K : PySem.W.Frag} {n m : Nat} {v : V} : ∀ {w : W}, W.low n w = true → Rep K μ H w v → n ≤ m → Rep K (μ.take m) H w v
  | .non, _, .non, _ => .non
  | .bl b, _, .bl _, _ => .bl b
  | .int b, _, .int _, _ => .int b
  | .str b, _, .str _, _ => .str b
  | .tup ws, h, .tup a b, l => .tup a (Reps.cut (by simpa [W.low] using h) b l)
  | .ref k, h, .ref a, l => .ref (by
      simp [W.low] at h
      rw [List.getElem?_take_of_lt (by omega)]; exact a)
theorem Reps.cut {K : PySem.W.Frag} {n m : Nat} : ∀ {ws : List W} {vs : List V}, W.lows n ws = true → Reps K μ H ws vs → n ≤ m → Reps K (μ.take m) H ws vs
  | [], _, _, .nil, _ => .nil
  | w :: ws, _, h, .cons a b, l => by
    simp [W.lows] at h
    exact .cons (Rep.cut h.1 a l) (Reps.cut h.2 b l)
end
theorem FRep.cut {K : PySem.W.Frag} {n m : Nat} : ∀ {fs : List (Str × W)} {gs : List (Str × V)}, W.lows n (fs.map (·.2)) = true → FRep K μ H fs gs → n ≤ m → FRep K (μ.take m) H fs gs
  | _, _, _, .nil, _ => .nil
  | p :: fs, _, h, .cons a b, l => by
    simp [W.lows] at h
    exact .cons ⟨a.1, a.2.cut h.1 l⟩ (FRep.cut h.2 b l)
/-- an object that no cell tells of -/
theorem Sim.other {o : HO} (s : Sim Γ μ st H) (hp : H p = none) : Sim Γ μ st (upd H p o) :=
  ⟨s.len, s.inj, fun i c a hc ha => (s.cell i c a hc ha).kept (ext_upd (.inl hp)) (.inl hp), s.back⟩
theorem get_snoc {α : Type} {l : List α} {x y : α} {i : Nat} (h : (l ++ [x])[i]? = some y) : l[i]? = some y ∨ (i = l.length ∧ y = x) := by
  rcases Nat.lt_or_ge i l.length with q | q
  · rw [List.getElem?_append_left q] at h; exact .inl h
  · rw [List.getElem?_append_right q] at h
    obtain ⟨n, e⟩ : ∃ n, i - l.length = n := ⟨_, rfl⟩
    rw [e] at h
    cases n with
    | zero => simp at h; exact .inr ⟨by omega, h.symm⟩
    | succ n => simp at h
def Sto.push (st : Sto) (c : Cell) : Sto := ⟨st.c ++ [c], st.d⟩
/-- a new cell -/
theorem Sim.new {o : HO} {c : Cell} (s : Sim Γ μ st H) (hp : H p = none) (hc : CellOk Γ (μ ++ [p]) (upd H p o) p c) (hb : c.low st.c.length = true) : Sim Γ (μ ++ [p]) (st.push c) (upd H p o) := by
  have old : ∀ (i : Nat) d, st.c[i]? = some d → d.own = true → μ[i]? = some p → False := fun i d h1 h2 h3 => by
    obtain ⟨u, q⟩ := (s.cell i d p h1 h3).some_ h2
    rw [hp] at q; cases q
  have mold : ∀ (i : Nat) d a, st.c[i]? = some d → (μ ++ [p])[i]? = some a → μ[i]? = some a := fun i d a h m => by
    have h1 := (List.getElem?_eq_some_iff.mp h).1
    have h2 := s.len
    rw [List.getElem?_append_left (by omega)] at m
    exact m
  have mnew : ∀ a, (μ ++ [p])[st.c.length]? = some a → a = p := fun a m => by
    rw [← s.len] at m
    simp at m
    exact m.symm
  refine ⟨by simp [s.len, Sto.push], fun i j a c' d' h1 h2 o1 o2 m1 m2 => ?_, fun i c' a h1 m1 => ?_, fun i c' h1 hk => ?_⟩
  · rcases get_snoc h1 with h1 | ⟨e1, z1⟩
    · rcases get_snoc h2 with h2 | ⟨e2, z2⟩
      · exact s.inj i j a _ _ h1 h2 o1 o2 (mold _ _ _ h1 m1) (mold _ _ _ h2 m2)
      · subst e2
        have e := mnew _ m2
        subst e
        exact (old i c' h1 o1 (mold _ _ _ h1 m1)).elim
    · rcases get_snoc h2 with h2 | ⟨e2, z2⟩
      · subst e1
        have e := mnew _ m1
        subst e
        exact (old j d' h2 o2 (mold _ _ _ h2 m2)).elim
      · omega
  · rcases get_snoc h1 with h1 | ⟨e1, z1⟩
    · exact (s.cell i c' a h1 (mold _ _ _ h1 m1)).kept (ext_new hp) (.inl hp)
    · subst e1 z1
      have e := mnew _ m1
      subst e
      exact hc
  · rcases get_snoc h1 with h1 | ⟨e1, z1⟩
    · exact s.back i c' h1 hk
    · subst e1 z1; exact hb
/-- the mark behind a write at n of what speaks of cells (b: of none) -/
def mark (d : Option Nat) (n : Nat) (b : Bool) : Option Nat := if b = true then d else some (match d with | none => n | some k => min k n)
def Sto.put (st : Sto) (n : Nat) (c : Cell) (b : Bool) : Sto := ⟨st.c.set n c, mark st.d n b⟩
theorem mark_lt {d : Option Nat} {n i : Nat} {b : Bool} (h : ∀ k, mark d n b = some k → i < k) : (∀ k, d = some k → i < k) ∧ (b = false → i < n) := by
  cases b with
  | true => exact ⟨h, fun z => by cases z⟩
  | false =>
    cases d with
    | none => exact ⟨fun k z => (by cases z), fun _ => h n rfl⟩
    | some m =>
      have := h (min m n) rfl
      exact ⟨fun k z => by cases z; omega, fun _ => by omega⟩
/-- a list is written -/
theorem Sim.write {o : HO} {c c' : Cell} {n : Nat} {ys : List V} {b : Bool} (s : Sim Γ μ st H) (hn : st.c[n]? = some c') (hm : μ[n]? = some p) (hp : H p = some (.lst ys)) (ho : c'.own = true) (ho' : c.own = true) (hc : CellOk Γ μ (upd H p o) p c)
    (hb : b = true → c'.low n = true → c.low n = true) : Sim Γ μ (st.put n c b) (upd H p o) := by
  have hlt := (List.getElem?_eq_some_iff.mp hn).1
  have own : ∀ (i : Nat) d, (st.c.set n c)[i]? = some d → d.own = true → ∃ d', st.c[i]? = some d' ∧ d'.own = true := fun i d h1 h2 => by
    by_cases z : n = i
    · subst z; exact ⟨c', hn, ho⟩
    · rw [List.getElem?_set_ne z] at h1; exact ⟨d, h1, h2⟩
  refine ⟨by simp [s.len, Sto.put], fun i j a d e h1 h2 o1 o2 m1 m2 => ?_, fun i d a h1 m1 => ?_, fun i d h1 hk => ?_⟩
  · obtain ⟨d', x1, x2⟩ := own i d h1 o1
    obtain ⟨e', y1, y2⟩ := own j e h2 o2
    exact s.inj i j a d' e' x1 y1 x2 y2 m1 m2
  · by_cases z : n = i
    · subst z
      have h1 : (st.c.set n c)[n]? = some d := h1
      rw [List.getElem?_set_self hlt] at h1
      cases h1
      rw [hm] at m1; cases m1
      exact hc
    · have h1 : (st.c.set n c)[i]? = some d := h1
      rw [List.getElem?_set_ne z] at h1
      refine (s.cell i d a h1 m1).kept (ext_upd (.inr ⟨_, hp⟩)) (.inr ⟨⟨_, hp⟩, fun od q => ?_⟩)
      subst q
      exact z (s.inj n i a c' d hn h1 ho od hm m1)
  · obtain ⟨k1, k2⟩ := mark_lt hk
    have h1 : (st.c.set n c)[i]? = some d := h1
    by_cases z : n = i
    · subst z
      rw [List.getElem?_set_self hlt] at h1
      cases h1
      cases b with
      | true => exact hb rfl (s.back n c' hn k1)
      | false => exact absurd (k2 rfl) (Nat.lt_irrefl _)
    · rw [List.getElem?_set_ne z] at h1
      exact s.back i d h1 k1
theorem getTake {α : Type} {l : List α} {n i : Nat} {x : α} (h : (l.take n)[i]? = some x) : l[i]? = some x ∧ i < n := by
  have hl := (List.getElem?_eq_some_iff.mp h).1
  rw [List.length_take] at hl
  rw [List.getElem?_take_of_lt (by omega)] at h
  exact ⟨h, by omega⟩
/-- may the cells from n on be forgotten -/
def Sto.may (st : Sto) (n : Nat) : Bool := match st.d with | none => true | some k => decide (n ≤ k)
def Sto.cut (st : Sto) (n : Nat) : Sto := ⟨st.c.take n, none⟩
theorem Sto.may_lt {st : Sto} {n i : Nat} (h : st.may n = true) (hi : i < n) : ∀ k, st.d = some k → i < k := fun k e => by
  unfold Sto.may at h
  rw [e] at h
  have := of_decide_eq_true h
  omega
/-- the cells from n on are forgotten -/
theorem Sim.cut {n : Nat} (s : Sim Γ μ st H) (h : st.may n = true) : Sim Γ (μ.take n) (st.cut n) H := by
  refine ⟨by simp [s.len, Sto.cut], fun i j a c' d' h1 h2 o1 o2 m1 m2 => ?_, fun i c a h1 m1 => ?_, fun i c h1 _ => ?_⟩
  · exact s.inj i j a c' d' (getTake h1).1 (getTake h2).1 o1 o2 (getTake m1).1 (getTake m2).1
  · obtain ⟨h1, hi⟩ := getTake h1
    have hb := s.back i c h1 (Sto.may_lt h hi)
    have hc := s.cell i c a h1 (getTake m1).1
    cases c with
    | lst ws => obtain ⟨xs, q1, q2⟩ := hc; exact ⟨xs, q1, Reps.cut (n := i) hb q2 (by omega)⟩
    | scr ws => obtain ⟨xs, q1, q2⟩ := hc; exact ⟨xs, q1, Reps.cut (n := i) hb q2 (by omega)⟩
    | ins k fs => obtain ⟨dx, gs, q1, q2⟩ := hc; exact ⟨dx, gs, q1, FRep.cut (n := i) hb q2 (by omega)⟩
  · obtain ⟨h1, hi⟩ := getTake h1
    exact s.back i c h1 (Sto.may_lt h hi)
/-- a tuple's own lists, if all of them are new, apart and without lists: the tuple with their new numbers, and the old ones -/
def relo (st : Sto) (n : Nat) : List W → List Nat → Option (List W × List Nat)
  | [], ks => some ([], ks)
  | .ref k :: r, ks => if n ≤ k ∧ k ∉ ks then (match st.c[k]? with
    | some (.lst us) => if W.pures us = true then (match relo st n r (ks ++ [k]) with | some (vs, js) => some (.ref (n + ks.length) :: vs, js) | none => none) else none
    | _ => none) else none
  | w :: r, ks => if W.pure w = true then (match relo st n r ks with | some (vs, js) => some (w :: vs, js) | none => none) else none
structure ReloOk (st : Sto) (n : Nat) (ks : List Nat) : Prop where
  nd : ks.Nodup
  at' : ∀ k ∈ ks, n ≤ k ∧ ∃ us, st.c[k]? = some (.lst us) ∧ W.pures us = true
theorem relo_ok {n : Nat} : ∀ {ws vs : List W} {ks js : List Nat}, relo st n ws ks = some (vs, js) → ReloOk st n ks → ReloOk st n js ∧ (∃ t, js = ks ++ t) ∧ ∀ {K : PySem.W.Frag} {H : Hp} {xs : List V} {ν : List Addr}, (∀ (q k : Nat) a, js[q]? = some k → μ[k]? = some a → ν[n + q]? = some a) → Reps K μ H ws xs → Reps K ν H vs xs
  | [], vs, ks, js, h, g => by
    unfold relo at h
    cases h
    exact ⟨g, ⟨[], by simp⟩, fun _ r => by cases r; exact .nil⟩
  | w :: r, vs, ks, js, h, g => by
    have pureCase : ∀ {vs2 : List W} {js : List Nat}, W.pure w = true → relo st n r ks = some (vs2, js) → vs = w :: vs2 → ReloOk st n js ∧ (∃ t, js = ks ++ t) ∧ ∀ {K : PySem.W.Frag} {H : Hp} {xs : List V} {ν : List Addr}, (∀ (q k : Nat) a, js[q]? = some k → μ[k]? = some a → ν[n + q]? = some a) → Reps K μ H (w :: r) xs → Reps K ν H vs xs := fun hp hr hv => by
      obtain ⟨g1, g2, g3⟩ := relo_ok hr g
      refine ⟨g1, g2, fun hν rr => ?_⟩
      subst hv
      cases rr with
      | cons a b => exact .cons (Rep.pure hp a) (g3 hν b)
    cases w with
    | ref k =>
      unfold relo at h
      split at h
      · rename_i hk
        split at h
        · rename_i us hc
          split at h
          · rename_i hp
            split at h
            · rename_i vs2 js2 hr
              cases h
              have gg : ReloOk st n (ks ++ [k]) := ⟨by
                rw [List.nodup_append]
                refine ⟨g.nd, by simp, fun a ha b hb => ?_⟩
                rw [List.mem_singleton.mp hb]
                exact fun z => hk.2 (z ▸ ha), fun a ha => by
                rcases List.mem_append.mp ha with ha | ha
                · exact g.at' a ha
                · rw [List.mem_singleton.mp ha]; exact ⟨hk.1, us, hc, hp⟩⟩
              obtain ⟨g1, ⟨t, g2⟩, g3⟩ := relo_ok hr gg
              refine ⟨g1, ⟨k :: t, by rw [g2, List.append_assoc]; rfl⟩, fun hν rr => ?_⟩
              cases rr with
              | cons a b =>
                cases a with
                | ref hm =>
                  refine .cons (.ref (hν ks.length k _ ?_ hm)) (g3 hν b)
                  rw [g2, List.append_assoc, List.getElem?_append_right (Nat.le_refl _), Nat.sub_self]; rfl
            · cases h
          · cases h
        · cases h
      · cases h
    | non =>
      unfold relo at h
      split at h
      · rename_i hp
        split at h
        · rename_i vs2 js2 hr; cases h; exact pureCase hp hr rfl
        · cases h
      · cases h
    | bl b =>
      unfold relo at h
      split at h
      · rename_i hp
        split at h
        · rename_i vs2 js2 hr; cases h; exact pureCase hp hr rfl
        · cases h
      · cases h
    | int b =>
      unfold relo at h
      split at h
      · rename_i hp
        split at h
        · rename_i vs2 js2 hr; cases h; exact pureCase hp hr rfl
        · cases h
      · cases h
    | str b =>
      unfold relo at h
      split at h
      · rename_i hp
        split at h
        · rename_i vs2 js2 hr; cases h; exact pureCase hp hr rfl
        · cases h
      · cases h
    | tup b =>
      unfold relo at h
      split at h
      · rename_i hp
        split at h
        · rename_i vs2 js2 hr; cases h; exact pureCase hp hr rfl
        · cases h
      · cases h
/-- what a def hands back: where it is a value without lists, or a new list of such, what it made beside is forgotten -/
def trim (n : Nat) (w : W) (st : Sto) : Res W :=
  if st.may n = true then
    (if W.pure w = true then .ok w (st.cut n) else
    match w with
    | .ref k => if n ≤ k then (match st.c[k]? with
      | some (.lst ws) => if W.pures ws = true then .ok (.ref (st.cut n).c.length) ((st.cut n).push (.lst ws)) else .ok w st
      | _ => .ok w st) else .ok w st
    | .tup ws => (match relo st n ws [] with
      | some (vs, ks) => .ok (.tup vs) ⟨st.c.take n ++ ks.map fun k => st.c.getD k (.lst []), none⟩
      | none => .ok w st)
    | _ => .ok w st)
  else .ok w st
end
end RB

set_option Elab.async false
set_option linter.all false
set_option maxRecDepth 100000
set_option maxHeartbeats 4000000
namespace RB
open PySem PySem.Spec PyProof.Rows L2

theorem PE_imp {X : Cx} {e : Expr} {t t' : TE} (h : PE X e t) (k : ∀ σ H Q, t' σ H Q → t σ H Q) : PE X e t' := ⟨fun pins s σ H Q I q => h.run pins s σ H Q I (k _ _ _ q)⟩
theorem PT_imp {X : Cx} {e : Expr} {t t' : TT} (h : PT X e t) (k : ∀ σ H Q, t' σ H Q → t σ H Q) : PT X e t' := ⟨fun pins s σ H Q I q => h.run pins s σ H Q I (k _ _ _ q)⟩
theorem PW_imp {X : Cx} {e : Expr} {t t' : TT} (h : PW X e t) (k : ∀ σ H Q, t' σ H Q → t σ H Q) : PW X e t' := ⟨fun wh pins s σ H Q I q => h.run wh pins s σ H Q I (k _ _ _ q)⟩
theorem PA_imp {X : Cx} {e : List Expr} {t t' : TA} (h : PA X e t) (k : ∀ σ H Q, t' σ H Q → t σ H Q) : PA X e t' := ⟨fun pos pins s σ H Q I q => h.run pos pins s σ H Q I (k _ _ _ q)⟩
theorem PS_imp {X : Cx} {e : Stmt} {t t' : TS} (h : PS X e t) (k : ∀ D σ H, t' D σ H → t D σ H) : PS X e t' := ⟨fun pins s σ H D I q => h.run pins s σ H D I (k _ _ _ q)⟩
theorem PSs_imp {X : Cx} {e : List Stmt} {t t' : TS} (h : PSs X e t) (k : ∀ D σ H, t' D σ H → t D σ H) : PSs X e t' := ⟨fun pins s σ H D I q => h.run pins s σ H D I (k _ _ _ q)⟩

abbrev RR (α β : Type) := List Addr → Hp → α → β → Prop
section
variable {α β γ δ : Type}
def Post (Γ : Gm) (Wx : WX) (R : RR α β) (μ : List Addr) (σ : L2.St) (H : Hp) (Q : β → Hp → Prop) : Res α → Prop
  | .ok a st' => ∀ μ' H' b, Ext Γ.K μ μ' H H' → Sim Γ μ' st' H' → R μ' H' a b → Q b H'
  | .exc c p st' => ∀ μ' H' d v, Ext Γ.K μ μ' H H' → Sim Γ μ' st' H' → Rep Γ.K μ' H' p v → H' d = some (.xd [(Γ.fld c, v)]) → Wx (.ref (Γ.ec c)) (some d) σ H'
  | .err => False
def tG (Γ : Gm) (Wx : WX) (R : RR α β) (f : Lo → Sto → Res α) : L2.St → Hp → (β → Hp → Prop) → Prop := fun σ H Q =>
  ∃ μ l st, Sim Γ μ st H ∧ LRep Γ.K μ H l σ ∧ Post Γ Wx R μ σ H Q (f l st)
abbrev tE (Γ : Gm) (Wx : WX) (f : Ev) : TE := tG Γ Wx (Rep Γ.K) f
abbrev tA (Γ : Gm) (Wx : WX) (f : Evs) : TA := tG Γ Wx (Reps Γ.K) f
abbrev tT (Γ : Gm) (Wx : WX) (f : Bv) : TT := tG Γ Wx (fun _ _ a b => a = b) f
variable {Γ : Gm} {Wx : WX} {R : RR α β} {R' : RR γ δ} {μ μ' : List Addr} {σ : L2.St} {H H' : Hp} {l : Lo} {st : Sto}
theorem Post.mono {Q : β → Hp → Prop} {r : Res α} (h : Post Γ Wx R μ σ H Q r) (e : Ext Γ.K μ μ' H H') : Post Γ Wx R μ' σ H' Q r := by
  cases r with
  | ok a st' => exact fun μ2 H2 b e2 => h μ2 H2 b (e.trans e2)
  | exc c p st' => exact fun μ2 H2 d v e2 => h μ2 H2 d v (e.trans e2)
  | err => exact h
theorem tG_bind {f : Lo → Sto → Res α} {k : α → Sto → Res γ} {Q : δ → Hp → Prop} (hs : Sim Γ μ st H) (hl : LRep Γ.K μ H l σ) (h : Post Γ Wx R' μ σ H Q ((f l st).bind k)) (S : β → Hp → Prop)
    (hS : ∀ a st1 μ1 H1 b, Ext Γ.K μ μ1 H H1 → Sim Γ μ1 st1 H1 → R μ1 H1 a b → Post Γ Wx R' μ1 σ H1 Q (k a st1) → S b H1) : tG Γ Wx R f σ H S := by
  refine ⟨μ, l, st, hs, hl, ?_⟩
  cases e : f l st with
  | ok a st1 =>
    rw [e] at h
    exact fun μ1 H1 b e1 s1 r1 => hS a st1 μ1 H1 b e1 s1 r1 (Post.mono (show Post Γ Wx R' μ σ H Q (k a st1) from h) e1)
  | exc c p st1 => rw [e] at h; exact h
  | err => rw [e] at h; exact h
/-- the end of a piece that keeps the state -/
theorem Post.here {Q : β → Hp → Prop} {a : α} {b : β} (h : Post Γ Wx R μ σ H Q (.ok a st)) (hs : Sim Γ μ st H) (r : R μ H a b) : Q b H := h μ H b .refl hs r
end

def evNil : Evs := fun _ st => .ok [] st
def evCons (a : Ev) (b : Evs) : Evs := fun l st => (a l st).bind fun x st1 => (b l st1).bind fun xs st2 => .ok (x :: xs) st2
def eLoc (i : Nat) : Ev := fun l st => match l[i]? with | some (some w) => .ok w st | _ => .err
def eLit (w : W) : Ev := fun _ st => .ok w st
def eTup (a : Evs) : Ev := fun l st => (a l st).bind fun ws st1 => if ws.length ≤ 1000 then .ok (.tup ws) st1 else .err
def eLst (a : Evs) : Ev := fun l st => (a l st).bind fun ws st1 => if ws.length ≤ 1000 then .ok (.ref st1.c.length) (st1.push (.lst ws)) else .err
def eBin (op : W → W → Sto → Res W) (a b : Ev) : Ev := fun l st => (a l st).bind fun x st1 => (b l st1).bind fun y st2 => op x y st2
def eB (F : List W → Sto → Res W) (a : Evs) : Ev := fun l st => (a l st).bind fun ws st1 => F ws st1
def eU (F : W → Sto → Res W) (a : Ev) : Ev := fun l st => (a l st).bind fun ws st1 => F ws st1
/-- what is true -/
def getL (st : Sto) (n : Nat) : Option (List W) := match st.c[n]? with | some (.lst ws) => some ws | some (.scr ws) => some ws | _ => none
def truth (st : Sto) : W → Option Bool
  | .non => some false
  | .bl b => some b
  | .int i => some (i != 0)
  | .str x => if x.length ≤ sizeLine then some ((x.length : Int) != 0) else none
  | .tup ws => some (!ws.isEmpty)
  | .ref n => match getL st n with | some ws => some (!ws.isEmpty) | none => none
def bTru (a : Ev) : Bv := fun l st => (a l st).bind fun w st1 => match truth st1 w with | some b => .ok b st1 | none => .err
def bNot (a : Bv) : Bv := fun l st => (a l st).bind fun b st1 => .ok (!b) st1
def bAnd (a b : Bv) : Bv := fun l st => (a l st).bind fun c st1 => if c = true then b l st1 else .ok false st1
def bOr (a b : Bv) : Bv := fun l st => (a l st).bind fun c st1 => if c = true then .ok true st1 else b l st1
def eIf (c : Bv) (a b : Ev) : Ev := fun l st => (c l st).bind fun k st1 => if k = true then a l st1 else b l st1
/-- and, or, not of bools, as values -/
def eAnd (a b : Ev) : Ev := fun l st => (a l st).bind fun x st1 => match x with | .bl c => if c = true then b l st1 else .ok (.bl false) st1 | _ => .err
def eOr (a b : Ev) : Ev := fun l st => (a l st).bind fun x st1 => match x with | .bl c => if c = true then .ok (.bl true) st1 else b l st1 | _ => .err
def eNot (a : Ev) : Ev := fun l st => (a l st).bind fun x st1 => match x with | .bl c => .ok (.bl (!c)) st1 | _ => .err
def bVal (a : Ev) : Bv := fun l st => (a l st).bind fun x st1 => match x with | .bl c => .ok c st1 | _ => .err

section
variable {X : Cx} {Γ : Gm} {Wx : WX} {e a b : Expr} {es : List Expr} {ea eb : Ev} {eas : Evs}
theorem qa_nil : PA X [] (tA Γ Wx evNil) := PA_imp pa_nil fun σ H Q ⟨μ, l, st, hs, hl, h⟩ => h.here hs .nil
theorem qa_cons (ha : PE X e (tE Γ Wx ea)) (hb : PA X es (tA Γ Wx eas)) (he : starEach (e :: es) X.env = (false, eval e X.env) :: starEach es X.env := by rfl) : PA X (e :: es) (tA Γ Wx (evCons ea eas)) :=
  PA_imp (pa_cons ha hb he) fun σ H Q ⟨μ, l, st, hs, hl, h⟩ => tG_bind hs hl h _ fun w st1 μ1 H1 v e1 s1 r1 h1 => tG_bind s1 (hl.mono e1) h1 _ fun ws st2 μ2 H2 vs e2 s2 r2 h2 => h2.here s2 (.cons (r1.mono e2) r2)
theorem qe_loc (i : Nat) {x : Str} {pos : Pos} (hN : X.N[i]? = some x := by rfl) (hv : Vis X.env.scope x := by first | exact Or.inl rfl | exact Or.inr (Or.inl rfl) | exact Or.inr (Or.inr rfl)) (hd : (x == ("__debug__" : Str)) = false := by decide)
    (hcd : (x == ("__classdict__" : Str)) = false := by decide) : PE X (.Name x pos) (tE Γ Wx (eLoc i)) :=
  PE_imp (pe_var hN hv hd hcd) fun σ H Q ⟨μ, l, st, hs, hl, h⟩ => by
    unfold eLoc at h
    split at h
    · rename_i w hw
      obtain ⟨v, h1, h2⟩ := hl.2 i w hw
      exact ⟨v, h1, h.here hs h2⟩
    · exact h.elim
theorem qe_int {i : Int} {j : Nat} {pos : Pos} : PE X (.Constant (.int i) j pos) (tE Γ Wx (eLit (.int i))) := PE_imp pe_int fun σ H Q ⟨μ, l, st, hs, hl, h⟩ => h.here hs (.int i)
theorem qe_bl {i : Bool} {j : Nat} {pos : Pos} : PE X (.Constant (.bool i) j pos) (tE Γ Wx (eLit (.bl i))) := PE_imp pe_bl fun σ H Q ⟨μ, l, st, hs, hl, h⟩ => h.here hs (.bl i)
theorem qe_non {j : Nat} {pos : Pos} : PE X (.Constant .none j pos) (tE Γ Wx (eLit .non)) := PE_imp pe_non fun σ H Q ⟨μ, l, st, hs, hl, h⟩ => h.here hs .non
theorem qe_str {x : Str} {j : Nat} {pos : Pos} : PE X (.Constant (.str x) j pos) (tE Γ Wx (eLit (.str x))) := PE_imp pe_str fun σ H Q ⟨μ, l, st, hs, hl, h⟩ => h.here hs (.str x)
/-- a module's constant -/
theorem qe_glob {x : Str} {v : V} {u : Value} {w : W} {pos : Pos} (hg : Gl X x) (hm : X.mg x = some u) (r : RelV v u) (hw : ∀ μ H, Rep Γ.K μ H w v) (hd : (x == ("__debug__" : Str)) = false := by decide) : PE X (.Name x pos) (tE Γ Wx (eLit w)) :=
  PE_imp (pe_glob hg hm r hd) fun σ H Q ⟨μ, l, st, hs, hl, h⟩ => h.here hs (hw _ _)
theorem le1000 {n : Nat} (h : n ≤ 1000) : n ≤ sizeLine := Nat.le_of_lt (small1000 h)
theorem qe_tup {pos : Pos} {x1} (h : PA X es (tA Γ Wx eas)) : PE X (.Tuple es x1 pos) (tE Γ Wx (eTup eas)) :=
  PE_imp (pe_tup h) fun σ H Q ⟨μ, l, st, hs, hl, h⟩ => tG_bind hs hl h _ fun ws st1 μ1 H1 xs e1 s1 r1 h1 => by
    split at h1
    · rename_i hlen
      refine ⟨by rw [← r1.length]; exact le1000 hlen, fun p hp => ?_⟩
      have e2 : Ext Γ.K μ1 μ1 H1 (upd H1 p (.tup xs)) := ext_upd (.inl hp)
      exact h1 _ _ _ e2 (s1.other hp) (.tup (.inl (.inl upd_same)) (r1.mono e2))
    · exact h1.elim
theorem qe_lst {pos : Pos} (h : PA X es (tA Γ Wx eas)) : PE X (.List es pos) (tE Γ Wx (eLst eas)) :=
  PE_imp (pe_lst h) fun σ H Q ⟨μ, l, st, hs, hl, h⟩ => tG_bind hs hl h _ fun ws st1 μ1 H1 xs e1 s1 r1 h1 => by
    split at h1
    · rename_i hlen
      refine ⟨by rw [← r1.length]; exact le1000 hlen, fun p hp => ?_⟩
      have e2 : Ext Γ.K μ1 (μ1 ++ [p]) H1 (upd H1 p (.lst xs)) := ext_new hp
      exact h1 _ _ _ e2 (s1.new hp ⟨xs, upd_same, r1.mono e2⟩ (r1.low (Nat.le_of_eq s1.len))) (.ref (by rw [← s1.len]; simp))
    · exact h1.elim
/-- an operator by values, run -/
def OpOk (Γ : Gm) (r : R2) (op : W → W → Sto → Res W) : Prop := ∀ (Wx : WX) μ (σ : L2.St) H st wx wy x y (Q : VK), Sim Γ μ st H → Rep Γ.K μ H wx x → Rep Γ.K μ H wy y → Post Γ Wx (Rep Γ.K) μ σ H Q (op wx wy st) → r x y H Q
theorem tOp_run {r : R2} {op : W → W → Sto → Res W} (hop : OpOk Γ r op) (σ : L2.St) (H : Hp) (Q : VK) (h : tE Γ Wx (eBin op ea eb) σ H Q) : tOp r (tE Γ Wx ea) (tE Γ Wx eb) σ H Q := by
  obtain ⟨μ, l, st, hs, hl, h⟩ := h
  exact tG_bind hs hl h _ fun w st1 μ1 H1 v e1 s1 r1 h1 => tG_bind s1 (hl.mono e1) h1 _ fun w2 st2 μ2 H2 v2 e2 s2 r2 h2 => hop Wx μ2 σ H2 st2 w w2 v v2 Q s2 (r1.mono e2) r2 h2
theorem qe_bin {o : Operator} {r : R2} {op : W → W → Sto → Res W} {pos : Pos} (ho : OpR X (binaryOp o) r) (hop : OpOk Γ r op) (ha : PE X a (tE Γ Wx ea)) (hb : PE X b (tE Γ Wx eb)) : PE X (.BinOp a o b pos) (tE Γ Wx (eBin op ea eb)) :=
  PE_imp (pe_op ho ha hb) fun σ H Q h => tOp_run hop σ H Q h
theorem qe_cmp {o : CmpOp} {r : R2} {op : W → W → Sto → Res W} {pos : Pos} (ho : OpR X (compareOp o) r) (hop : OpOk Γ r op) (ha : PE X a (tE Γ Wx ea)) (hb : PE X b (tE Γ Wx eb)) (hm : behindInMarks o b = false) : PE X (.Compare a [o] [b] pos) (tE Γ Wx (eBin op ea eb)) :=
  PE_imp (pe_cmpR ho ha hb hm) fun σ H Q h => tOp_run hop σ H Q h
theorem tTest_run {f : Ev} (σ : L2.St) (H : Hp) (Q : Bool → Hp → Prop) (h : tT Γ Wx (bVal f) σ H Q) : tTest (tE Γ Wx f) σ H Q := by
  obtain ⟨μ, l, st, hs, hl, h⟩ := h
  exact tG_bind hs hl h _ fun w st1 μ1 H1 v e1 s1 r1 h1 => by
    split at h1
    · cases r1
      exact ⟨_, rfl, h1.here s1 rfl⟩
    · exact h1.elim
theorem qt_cmp {o : CmpOp} {r : R2} {op : W → W → Sto → Res W} {pos : Pos} (ho : OpR X (compareOp o) r) (hop : OpOk Γ r op) (ha : PE X a (tE Γ Wx ea)) (hb : PE X b (tE Γ Wx eb)) (hm : behindInMarks o b = false) : PT X (.Compare a [o] [b] pos) (tT Γ Wx (bVal (eBin op ea eb))) :=
  PT_imp (pt_cmpR ho ha hb hm) fun σ H Q ⟨μ, l, st, hs, hl, h⟩ => by
    have h' : tTest (tE Γ Wx (eBin op ea eb)) σ H Q := tTest_run σ H Q ⟨μ, l, st, hs, hl, h⟩
    exact tOp_run hop σ H _ h'
/-- a op b op' c -/
def eChain (op op' : W → W → Sto → Res W) (a b c : Ev) : Ev := fun l st => (a l st).bind fun x st1 => (b l st1).bind fun y st2 => (op x y st2).bind fun z st3 => match z with
  | .bl k => if k = true then (c l st3).bind fun w st4 => op' y w st4 else .ok (.bl false) st3
  | _ => .err
/-- comparisons of a chain keep the state -/
def OpOkS (Γ : Gm) (r : R2) (op : W → W → Sto → Res W) : Prop := OpOk Γ r op ∧ ∀ x y st z st', op x y st = .ok z st' → st' = st
theorem tChain_run {c : Expr} {ec : Ev} {r r' : R2} {op op' : W → W → Sto → Res W} (hop : OpOk Γ r op) (hop' : OpOk Γ r' op') (σ : L2.St) (H : Hp) (Q : VK) (h : tE Γ Wx (eChain op op' ea eb ec) σ H Q) : tChain r r' (tE Γ Wx ea) (tE Γ Wx eb) (tE Γ Wx ec) σ H Q := by
  obtain ⟨μ, l, st, hs, hl, h⟩ := h
  refine tG_bind hs hl h _ fun w st1 μ1 H1 v e1 s1 r1 h1 => tG_bind s1 (hl.mono e1) h1 _ fun w2 st2 μ2 H2 v2 e2 s2 r2 h2 => ?_
  refine hop Wx μ2 σ H2 st2 w w2 v v2 _ s2 (r1.mono e2) r2 ?_
  cases e : op w w2 st2 with
  | err => rw [e] at h2; exact h2
  | exc c p st3 => rw [e] at h2; exact h2
  | ok z st3 =>
    rw [e] at h2
    intro μ3 H3 vz e3 s3 r3
    have h3 := Post.mono h2 e3
    dsimp only [Res.bind] at h3
    split at h3
    · rename_i k
      cases r3
      refine ⟨k, rfl, ?_⟩
      split
      · rename_i hk
        rw [if_pos hk] at h3
        exact tG_bind s3 (hl.mono (e1.trans (e2.trans e3))) h3 _ fun w4 st4 μ4 H4 v4 e4 s4 r4 h4 => hop' Wx μ4 σ H4 st4 w2 w4 v2 v4 Q s4 (r2.mono (e3.trans e4)) r4 h4
      · rename_i hk
        rw [if_neg hk] at h3
        exact h3.here s3 (.bl false)
    · exact h3.elim
theorem qe_chain {c : Expr} {ec : Ev} {o o' : CmpOp} {r r' : R2} {op op' : W → W → Sto → Res W} {pos : Pos} (ho : OpR X (compareOp o) r) (hop : OpOk Γ r op) (ho' : OpR X (compareOp o') r') (hop' : OpOk Γ r' op') (ha : PE X a (tE Γ Wx ea)) (hb : PE X b (tE Γ Wx eb))
    (hc : PE X c (tE Γ Wx ec)) (hm : lastMarks [o, o'] [b, c] = false := by rfl) : PE X (.Compare a [o, o'] [b, c] pos) (tE Γ Wx (eChain op op' ea eb ec)) :=
  PE_imp (pe_chain ho ho' ha hb hc hm) fun σ H Q h => tChain_run (c := c) hop hop' σ H Q h
theorem qt_chain {c : Expr} {ec : Ev} {o o' : CmpOp} {r r' : R2} {op op' : W → W → Sto → Res W} {pos : Pos} (ho : OpR X (compareOp o) r) (hop : OpOk Γ r op) (ho' : OpR X (compareOp o') r') (hop' : OpOk Γ r' op') (ha : PE X a (tE Γ Wx ea)) (hb : PE X b (tE Γ Wx eb))
    (hc : PE X c (tE Γ Wx ec)) (hm : lastMarks [o, o'] [b, c] = false := by rfl) : PT X (.Compare a [o, o'] [b, c] pos) (tT Γ Wx (bVal (eChain op op' ea eb ec))) :=
  PT_imp (pt_chain ho ho' ha hb hc hm) fun σ H Q h => by
    have h' : tTest (tE Γ Wx (eChain op op' ea eb ec)) σ H Q := tTest_run σ H Q h
    exact tChain_run (c := c) hop hop' σ H _ h'
theorem getL_rep {μ : List Addr} {st : Sto} {H : Hp} {n : Nat} {ws : List W} {v : V} (hs : Sim Γ μ st H) (h : getL st n = some ws) (r : Rep Γ.K μ H (.ref n) v) : ∃ a xs, v = .ref a ∧ SqL Γ.K H a xs ∧ Reps Γ.K μ H ws xs := by
  cases r with
  | ref hm =>
    unfold getL at h
    split at h
    · rename_i ws' e
      cases h
      obtain ⟨xs, h1, h2⟩ := hs.cell n _ _ e hm
      exact ⟨_, xs, rfl, .inl (.inl h1), h2⟩
    · rename_i ws' e
      cases h
      obtain ⟨xs, h1, h2⟩ := hs.cell n _ _ e hm
      refine ⟨_, xs, rfl, ?_, h2⟩
      rcases h1 with h1 | ⟨o, h1⟩
      · exact .inr h1
      · exact .inl (.inr ⟨o, h1⟩)
    · cases h
theorem isEmpty_reps {μ : List Addr} {H : Hp} {K : PySem.W.Frag} : ∀ {ws : List W} {xs : List V}, Reps K μ H ws xs → xs.isEmpty = ws.isEmpty
  | _, _, .nil => rfl
  | _, _, .cons _ _ => rfl
theorem truth_rep {μ : List Addr} {st : Sto} {H : Hp} {w : W} {v : V} {c : Bool} (hs : Sim Γ μ st H) (h : truth st w = some c) (r : Rep Γ.K μ H w v) : TruV Γ.K v H c := by
  cases w with
  | non => cases r; cases h; rfl
  | bl b => cases r; cases h; rfl
  | int i => cases r; cases h; rfl
  | str x =>
    cases r
    simp only [truth] at h
    by_cases q : x.length ≤ sizeLine
    · rw [if_pos q] at h
      exact ⟨q, (Option.some.inj h).symm⟩
    · rw [if_neg q] at h; cases h
  | tup ws =>
    cases r with
    | tup h1 h2 => cases h; exact .inr (.inl ⟨_, h1, by rw [isEmpty_reps h2]⟩)
  | ref n =>
    simp only [truth] at h
    cases e : getL st n with
    | none => rw [e] at h; cases h
    | some ws =>
      rw [e] at h
      cases h
      obtain ⟨a, xs, rfl, h1, h2⟩ := getL_rep hs e r
      exact .inl ⟨xs, h1, by rw [isEmpty_reps h2]⟩
/-- an expression as a test -/
theorem qt_tru (hK : X.K = Γ.K) (ha : PE X a (tE Γ Wx ea)) (he : ∀ whole, isTrue a X.env whole = (do let v ← whole; standAt a.pos; holding [v] (truthy v)) := by intro _; rfl) : PT X a (tT Γ Wx (bTru ea)) :=
  PT_imp (pt_truth ha he) fun σ H Q ⟨μ, l, st, hs, hl, h⟩ => tG_bind hs hl h _ fun w st1 μ1 H1 v e1 s1 r1 h1 => by
    split at h1
    · rename_i c hc
      exact ⟨c, by rw [hK]; exact truth_rep s1 hc r1, h1.here s1 rfl⟩
    · exact h1.elim
theorem qt_not {ba : Bv} {pos : Pos} (ha : PT X a (tT Γ Wx ba)) : PT X (.UnaryOp .Not a pos) (tT Γ Wx (bNot ba)) :=
  PT_imp (pt_not ha) fun σ H Q ⟨μ, l, st, hs, hl, h⟩ => tG_bind hs hl h _ fun w st1 μ1 H1 v e1 s1 r1 h1 => by subst r1; exact h1.here s1 rfl
theorem qw_and1 {ba : Bv} {pos : Pos} (ha : PT X a (tT Γ Wx ba)) : PW X (.BoolOp .And [a] pos) (tT Γ Wx ba) := pw_and1 ha
theorem qw_or1 {ba : Bv} {pos : Pos} (ha : PT X a (tT Γ Wx ba)) : PW X (.BoolOp .Or [a] pos) (tT Γ Wx ba) := pw_or1 ha
theorem qw_pt {ba : Bv} {e : Expr} (h : PW X e (tT Γ Wx ba)) : PT X e (tT Γ Wx ba) := h.pt
theorem qw_and {ba bb : Bv} {rest : List Expr} {pos : Pos} (ha : PT X a (tT Γ Wx ba)) (hb : PW X (.BoolOp .And (b :: rest) pos) (tT Γ Wx bb)) : PW X (.BoolOp .And (a :: b :: rest) pos) (tT Γ Wx (bAnd ba bb)) :=
  PW_imp (pw_and ha hb) fun σ H Q ⟨μ, l, st, hs, hl, h⟩ => tG_bind hs hl h _ fun c st1 μ1 H1 v e1 s1 r1 h1 => by
    subst r1
    split
    · rename_i hc
      rw [if_pos hc] at h1
      exact ⟨μ1, l, st1, s1, hl.mono e1, h1⟩
    · rename_i hc
      rw [if_neg hc] at h1
      exact h1.here s1 rfl
theorem qw_or {ba bb : Bv} {rest : List Expr} {pos : Pos} (ha : PT X a (tT Γ Wx ba)) (hb : PW X (.BoolOp .Or (b :: rest) pos) (tT Γ Wx bb)) : PW X (.BoolOp .Or (a :: b :: rest) pos) (tT Γ Wx (bOr ba bb)) :=
  PW_imp (pw_or ha hb) fun σ H Q ⟨μ, l, st, hs, hl, h⟩ => tG_bind hs hl h _ fun c st1 μ1 H1 v e1 s1 r1 h1 => by
    subst r1
    split
    · rename_i hc
      rw [if_pos hc] at h1
      exact h1.here s1 rfl
    · rename_i hc
      rw [if_neg hc] at h1
      exact ⟨μ1, l, st1, s1, hl.mono e1, h1⟩
theorem qe_one {o : BoolOp} {pos : Pos} (ha : PE X a (tE Γ Wx ea)) : PE X (.BoolOp o [a] pos) (tE Γ Wx ea) := pe_one ha
theorem qe_and {rest : List Expr} {pos : Pos} (ha : PE X a (tE Γ Wx ea)) (hb : PE X (.BoolOp .And (b :: rest) pos) (tE Γ Wx eb)) : PE X (.BoolOp .And (a :: b :: rest) pos) (tE Γ Wx (eAnd ea eb)) :=
  PE_imp (pe_and ha hb) fun σ H Q ⟨μ, l, st, hs, hl, h⟩ => tG_bind hs hl h _ fun w st1 μ1 H1 v e1 s1 r1 h1 => by
    split at h1
    · rename_i c
      cases r1
      refine ⟨c, rfl, ?_⟩
      split
      · rename_i hc
        rw [if_pos hc] at h1
        exact ⟨μ1, l, st1, s1, hl.mono e1, h1⟩
      · rename_i hc
        rw [if_neg hc] at h1
        exact h1.here s1 (.bl false)
    · exact h1.elim
theorem qe_or {rest : List Expr} {pos : Pos} (ha : PE X a (tE Γ Wx ea)) (hb : PE X (.BoolOp .Or (b :: rest) pos) (tE Γ Wx eb)) : PE X (.BoolOp .Or (a :: b :: rest) pos) (tE Γ Wx (eOr ea eb)) :=
  PE_imp (pe_or ha hb) fun σ H Q ⟨μ, l, st, hs, hl, h⟩ => tG_bind hs hl h _ fun w st1 μ1 H1 v e1 s1 r1 h1 => by
    split at h1
    · rename_i c
      cases r1
      refine ⟨c, rfl, ?_⟩
      split
      · rename_i hc
        rw [if_pos hc] at h1
        exact h1.here s1 (.bl true)
      · rename_i hc
        rw [if_neg hc] at h1
        exact ⟨μ1, l, st1, s1, hl.mono e1, h1⟩
    · exact h1.elim
theorem qe_not {pos : Pos} (ha : PE X a (tE Γ Wx ea)) : PE X (.UnaryOp .Not a pos) (tE Γ Wx (eNot ea)) :=
  PE_imp (pe_not ha) fun σ H Q ⟨μ, l, st, hs, hl, h⟩ => tG_bind hs hl h _ fun w st1 μ1 H1 v e1 s1 r1 h1 => by
    split at h1
    · rename_i c
      cases r1
      exact ⟨c, rfl, h1.here s1 (.bl _)⟩
    · exact h1.elim
theorem qe_if {c : Expr} {bc : Bv} {pos : Pos} (hc : PT X c (tT Γ Wx bc)) (ha : PE X a (tE Γ Wx ea)) (hb : PE X b (tE Γ Wx eb)) : PE X (.IfExp c a b pos) (tE Γ Wx (eIf bc ea eb)) :=
  PE_imp (pe_ifExp hc ha hb) fun σ H Q ⟨μ, l, st, hs, hl, h⟩ => tG_bind hs hl h _ fun k st1 μ1 H1 v e1 s1 r1 h1 => by
    subst r1
    split
    · rename_i hc
      rw [if_pos hc] at h1
      exact ⟨μ1, l, st1, s1, hl.mono e1, h1⟩
    · rename_i hc
      rw [if_neg hc] at h1
      exact ⟨μ1, l, st1, s1, hl.mono e1, h1⟩
/-- a built-in function or type by values, run -/
def CallOk (Γ : Gm) (r : List V → Hp → VK → Prop) (F : List W → Sto → Res W) : Prop := ∀ (Wx : WX) μ (σ : L2.St) H st ws xs (Q : VK), Sim Γ μ st H → Reps Γ.K μ H ws xs → Post Γ Wx (Rep Γ.K) μ σ H Q (F ws st) → r xs H Q
theorem tCB_run {r : List V → Hp → VK → Prop} {F : List W → Sto → Res W} (hF : CallOk Γ r F) (σ : L2.St) (H : Hp) (Q : VK) (h : tE Γ Wx (eB F eas) σ H Q) : tCB r (tA Γ Wx eas) σ H Q := by
  obtain ⟨μ, l, st, hs, hl, h⟩ := h
  exact tG_bind hs hl h _ fun ws st1 μ1 H1 xs e1 s1 r1 h1 => hF Wx μ1 σ H1 st1 ws xs Q s1 r1 h1
end
end RB

set_option Elab.async false
set_option linter.all false
set_option maxRecDepth 100000
set_option maxHeartbeats 4000000
namespace RB
open PySem PySem.Spec PyProof.Rows L2

def PostS (Γ : Gm) (Wx : WX) (μ : List Addr) (H : Hp) (D : Ends) : RS → Prop
  | .nx l st => ∀ μ' H' σ', Ext Γ.K μ μ' H H' → Sim Γ μ' st H' → LRep Γ.K μ' H' l σ' → D.nx σ' H'
  | .rt w st => ∀ μ' H' v, Ext Γ.K μ μ' H H' → Sim Γ μ' st H' → Rep Γ.K μ' H' w v → D.rt v H'
  | .bk l st => ∀ μ' H' σ', Ext Γ.K μ μ' H H' → Sim Γ μ' st H' → LRep Γ.K μ' H' l σ' → D.bk σ' H'
  | .ct l st => ∀ μ' H' σ', Ext Γ.K μ μ' H H' → Sim Γ μ' st H' → LRep Γ.K μ' H' l σ' → D.ct σ' H'
  | .exc c p l st => ∀ μ' H' σ' d v, Ext Γ.K μ μ' H H' → Sim Γ μ' st H' → LRep Γ.K μ' H' l σ' → Rep Γ.K μ' H' p v → H' d = some (.xd [(Γ.fld c, v)]) → Wx (.ref (Γ.ec c)) (some d) σ' H'
  | .err => False
def tS (Γ : Gm) (Wx : WX) (s : Sx) : TS := fun D σ H => ∃ μ l st, Sim Γ μ st H ∧ LRep Γ.K μ H l σ ∧ PostS Γ Wx μ H D (s l st)
def xs {α : Type} (r : Res α) (l : Lo) (k : α → Sto → RS) : RS := match r with | .ok a st => k a st | .exc c p st => .exc c p l st | .err => .err
/-- a target: names, bound from a value -/
abbrev Tg := W → Lo → Sto → Option Lo
abbrev Tgs := List W → Lo → Sto → Option Lo
def tgName (i : Nat) : Tg := fun w l _ => some (l.set i (some w))
def tgNil : Tgs := fun ws l _ => match ws with | [] => some l | _ => none
def tgCons (a : Tg) (b : Tgs) : Tgs := fun ws l st => match ws with | w :: r => (a w l st).bind fun l1 => b r l1 st | [] => none
def tgTup (n : Nat) (t : Tgs) : Tg := fun w l st => match w with
  | .tup ws => if ws.length = n then t ws l st else none
  | .ref k => match getL st k with | some ws => if ws.length = n then t ws l st else none | none => none
  | _ => none
/-- what a for walks -/
inductive Src where
  | fix (ws : List W) | live (n : Nat) | enum (s : Src) | zip (a b : Src)
def Src.at (st : Sto) (i : Nat) : Src → Option (Option W)
  | .fix ws => some ws[i]?
  | .live n => (getL st n).map (·[i]?)
  | .enum s => (Src.at st i s).map fun o => o.map fun w => .tup [.int (i : Nat), w]
  | .zip a b => (Src.at st i a).bind fun x => (Src.at st i b).bind fun y => match x, y with | some x, some y => some (some (.tup [x, y])) | _, _ => some none
def loopF (s : Src) (tg : Tg) (body : Sx) : Nat → Nat → Lo → Sto → RS
  | 0, _, _, _ => .err
  | f + 1, i, l, st => match s.at st i with
    | none => .err
    | some none => .nx l st
    | some (some w) => match tg w l st with
      | none => .err
      | some l1 => match body l1 st with
        | .nx l2 st2 => loopF s tg body f (i + 1) l2 st2
        | .ct l2 st2 => loopF s tg body f (i + 1) l2 st2
        | .bk l2 st2 => .nx l2 st2
        | r => r
def whileF (c : Bv) (body : Sx) : Nat → Lo → Sto → RS
  | 0, _, _ => .err
  | f + 1, l, st => xs (c l st) l fun b st1 => if b = true then (match body l st1 with
        | .nx l2 st2 => whileF c body f l2 st2
        | .ct l2 st2 => whileF c body f l2 st2
        | .bk l2 st2 => .nx l2 st2
        | r => r) else .nx l st1
def sNil : Sx := fun l st => .nx l st
def sSeq (a b : Sx) : Sx := fun l st => match a l st with | .nx l1 st1 => b l1 st1 | r => r
def sSet (tg : Tg) (e : Ev) : Sx := fun l st => xs (e l st) l fun w st1 => match tg w l st1 with | some l1 => .nx l1 st1 | none => .err
def sDrop (e : Ev) : Sx := fun l st => xs (e l st) l fun _ st1 => .nx l st1
def sRet (e : Ev) : Sx := fun l st => xs (e l st) l fun w st1 => .rt w st1
def sRetN : Sx := fun _ st => .rt .non st
def sIf (c : Bv) (a b : Sx) : Sx := fun l st => xs (c l st) l fun k st1 => if k = true then a l st1 else b l st1
def sBreak : Sx := fun l st => .bk l st
def sCont : Sx := fun l st => .ct l st
def sFor (n : Nat) (src : Lo → Sto → Res Src) (tg : Tg) (body : Sx) : Sx := fun l st => xs (src l st) l fun s st1 => loopF s tg body n 0 l st1
def sWhile (n : Nat) (c : Bv) (body : Sx) : Sx := fun l st => whileF c body n l st

section
variable {Γ : Gm} {Wx : WX} {μ μ' : List Addr} {σ : L2.St} {H H' : Hp} {l : Lo} {st : Sto}
theorem PostS.mono {D : Ends} {r : RS} (h : PostS Γ Wx μ H D r) (e : Ext Γ.K μ μ' H H') : PostS Γ Wx μ' H' D r := by
  cases r with
  | nx l st => exact fun a b c e2 => h a b c (e.trans e2)
  | rt w st => exact fun a b c e2 => h a b c (e.trans e2)
  | bk l st => exact fun a b c e2 => h a b c (e.trans e2)
  | ct l st => exact fun a b c e2 => h a b c (e.trans e2)
  | exc c p l st => exact fun a b c d v e2 => h a b c d v (e.trans e2)
  | err => exact h
theorem PostS.here {D : Ends} (h : PostS Γ Wx μ H D (.nx l st)) (hs : Sim Γ μ st H) (hl : LRep Γ.K μ H l σ) : D.nx σ H := h μ H σ .refl hs hl
theorem tG_bindS {α β : Type} {R : RR α β} {f : Lo → Sto → Res α} {k : α → Sto → RS} {D : Ends} (hs : Sim Γ μ st H) (hl : LRep Γ.K μ H l σ) (h : PostS Γ Wx μ H D (xs (f l st) l k)) (S : β → Hp → Prop)
    (hS : ∀ a st1 μ1 H1 b, Ext Γ.K μ μ1 H H1 → Sim Γ μ1 st1 H1 → R μ1 H1 a b → PostS Γ Wx μ1 H1 D (k a st1) → S b H1) : tG Γ Wx R f σ H S := by
  refine ⟨μ, l, st, hs, hl, ?_⟩
  cases e : f l st with
  | ok a st1 =>
    rw [e] at h
    exact fun μ1 H1 b e1 s1 r1 => hS a st1 μ1 H1 b e1 s1 r1 (PostS.mono (show PostS Γ Wx μ H D (k a st1) from h) e1)
  | exc c p st1 =>
    rw [e] at h
    exact fun μ1 H1 d v e1 s1 r1 q1 => h μ1 H1 σ d v e1 s1 (hl.mono e1) r1 q1
  | err => rw [e] at h; exact h

def gT (Γ : Gm) (tg : Tg) : TG := fun v σ H Q => ∃ μ l st w l', Sim Γ μ st H ∧ LRep Γ.K μ H l σ ∧ Rep Γ.K μ H w v ∧ tg w l st = some l' ∧ ∀ σ', LRep Γ.K μ H l' σ' → Q σ' H
def gTs (Γ : Gm) (tg : Tgs) : TGs := fun v σ H Q => ∃ μ l st w l', Sim Γ μ st H ∧ LRep Γ.K μ H l σ ∧ Reps Γ.K μ H w v ∧ tg w l st = some l' ∧ ∀ σ', LRep Γ.K μ H l' σ' → Q σ' H
end
section
variable {X : Cx} {Γ : Gm} {Wx : WX} {e a b : Expr} {es : List Expr} {ea eb : Ev} {eas : Evs}
theorem PG_imp {t t' : TG} (h : PG X e t) (k : ∀ v σ H Q, t' v σ H Q → t v σ H Q) : PG X e t' := ⟨fun pins s σ H v u Q I r q => h.run pins s σ H v u Q I r (k _ _ _ _ q)⟩
theorem PG_or {t t' : TG} (h : PG X e t) (h' : PG X e t') : PG X e (fun v σ H Q => t v σ H Q ∨ t' v σ H Q) := ⟨fun pins s σ H v u Q I r q => q.elim (h.run pins s σ H v u Q I r) (h'.run pins s σ H v u Q I r)⟩
theorem PGs_imp {t t' : TGs} (h : PGs X es t) (k : ∀ v σ H Q, t' v σ H Q → t v σ H Q) : PGs X es t' := ⟨fun pins s σ H v u Q I r q => h.run pins s σ H v u Q I r (k _ _ _ _ q)⟩
theorem qg_name {i : Nat} {x : Str} {pos : Pos} (hN : X.N.Nodup) (hi : X.N[i]? = some x) (hx : L2.Loc X.env.scope x) (hf : X.fn x = true ∨ X.env.scope.names.lookup x = some .local := by first | exact .inl rfl | exact .inr rfl | assumption) : PG X (.Name x pos) (gT Γ (tgName i)) :=
  PG_imp (pg_name hN hi hx hf) fun v σ H Q ⟨μ, l, st, w, l', hs, hl, hr, h1, h2⟩ => by
    cases h1
    exact h2 _ (hl.set hr i)
theorem qg_nil : PGs X [] (gTs Γ tgNil) := PGs_imp pgs_nil fun v σ H Q ⟨μ, l, st, w, l', hs, hl, hr, h1, h2⟩ => by
  cases hr with
  | nil => cases h1; exact ⟨rfl, h2 _ hl⟩
  | cons _ _ => cases h1
theorem qg_cons {ta : Tg} {tb : Tgs} (ha : PG X e (gT Γ ta)) (hb : PGs X es (gTs Γ tb)) (he : (assignEach (e :: es) X.env).map (·.2) = assign e X.env :: (assignEach es X.env).map (·.2) := by rfl) : PGs X (e :: es) (gTs Γ (tgCons ta tb)) :=
  PGs_imp (pgs_cons ha hb he) fun v σ H Q ⟨μ, l, st, w, l', hs, hl, hr, h1, h2⟩ => by
    cases hr with
    | nil => cases h1
    | @cons w1 v1 ws vs r1 r2 =>
      have h1 : (ta w1 l st).bind (fun l1 => tb ws l1 st) = some l' := h1
      cases e1 : ta w1 l st with
      | none => rw [e1] at h1; cases h1
      | some l1 =>
        rw [e1] at h1
        exact ⟨_, _, rfl, μ, l, st, w1, l1, hs, hl, r1, e1, fun σ1 hl1 => ⟨μ, l1, st, ws, l', hs, hl1, r2, h1, h2⟩⟩
theorem qg_tup {k n : Nat} {t : Tgs} {pos : Pos} (hK : X.K = Γ.K) (hc : X.calm = true) (h : PGs X es (gTs Γ t)) (hn : (assignEach es X.env).length = n := by rfl) (hst : (assignEach es X.env).findIdx? (·.1) = none := by rfl) : PG X (.Tuple es k pos) (gT Γ (tgTup n t)) :=
  PG_imp (PG_or (pg_tup (k := k) (pos := pos) hc h hn hst) (pg_lst (k := k) (pos := pos) hc h hn hst)) fun v σ H Q ⟨μ, l, st, w, l', hs, hl, hr, h1, h2⟩ => by
    rw [hK]
    cases w with
    | tup ws =>
      cases hr with
      | tup q1 q2 =>
        simp only [tgTup] at h1
        split at h1
        · rename_i hlen
          exact .inl ⟨_, _, rfl, q1, by rw [← q2.length]; exact hlen, μ, l, st, ws, l', hs, hl, q2, h1, h2⟩
        · cases h1
    | ref k =>
      simp only [tgTup] at h1
      cases e1 : getL st k with
      | none => rw [e1] at h1; cases h1
      | some ws =>
        rw [e1] at h1
        obtain ⟨a, xs, rfl, q1, q2⟩ := getL_rep hs e1 hr
        dsimp only at h1
        split at h1
        · rename_i hlen
          exact .inr ⟨_, _, rfl, q1, by rw [← q2.length]; exact hlen, μ, l, st, ws, l', hs, hl, q2, h1, h2⟩
        · cases h1
    | _ => cases h1

theorem qs_nil : PSs X [] (tS Γ Wx sNil) := PSs_imp pss_nil fun D σ H ⟨μ, l, st, hs, hl, h⟩ => h.here hs hl
theorem qs_pass {pos : Pos} : PS X (.Pass pos) (tS Γ Wx sNil) := PS_imp ps_pass fun D σ H ⟨μ, l, st, hs, hl, h⟩ => h.here hs hl
theorem qs_doc {x : Str} {j : Nat} {pos pos' : Pos} : PS X (.Expr (.Constant (.str x) j pos) pos') (tS Γ Wx sNil) := PS_imp ps_doc fun D σ H ⟨μ, l, st, hs, hl, h⟩ => h.here hs hl
theorem qs_break {pos : Pos} : PS X (.Break pos) (tS Γ Wx sBreak) := PS_imp ps_break fun D σ H ⟨μ, l, st, hs, hl, h⟩ => h μ H σ .refl hs hl
theorem qs_cont {pos : Pos} : PS X (.Continue pos) (tS Γ Wx sCont) := PS_imp ps_continue fun D σ H ⟨μ, l, st, hs, hl, h⟩ => h μ H σ .refl hs hl
theorem qs_cons {s : Stmt} {rest : List Stmt} {x y : Sx} (ha : PS X s (tS Γ Wx x)) (hb : PSs X rest (tS Γ Wx y)) : PSs X (s :: rest) (tS Γ Wx (sSeq x y)) :=
  PSs_imp (pss_cons ha hb) fun D σ H ⟨μ, l, st, hs, hl, h⟩ => by
    refine ⟨μ, l, st, hs, hl, ?_⟩
    unfold sSeq at h
    cases e : x l st with
    | nx l1 st1 =>
      rw [e] at h
      exact fun μ1 H1 σ1 e1 s1 l1' => ⟨μ1, l1, st1, s1, l1', PostS.mono h e1⟩
    | rt w st1 => rw [e] at h; exact h
    | bk l1 st1 => rw [e] at h; exact h
    | ct l1 st1 => rw [e] at h; exact h
    | exc c p l1 st1 => rw [e] at h; exact h
    | err => rw [e] at h; exact h
theorem qs_one {s : Stmt} {x : Sx} (ha : PS X s (tS Γ Wx x)) : PSs X [s] (tS Γ Wx x) := pss_one ha
theorem qs_set {tg : Expr} {t : Tg} {pos : Pos} (he : PE X e (tE Γ Wx ea)) (hg : PG X tg (gT Γ t)) (hs : swapsWithSole [tg] e pos.line X.env = pure false := by rfl) (hw : swappedStores [tg] e X.env = pure none := by rfl)
    (h1 : (assignEach [tg] X.env).map (·.2) = [assign tg X.env] := by rfl) : PS X (.Assign [tg] e pos) (tS Γ Wx (sSet t ea)) :=
  PS_imp (ps_asg he hg hs hw h1) fun D σ H ⟨μ, l, st, hs, hl, h⟩ => tG_bindS hs hl h _ fun w st1 μ1 H1 v e1 s1 r1 h1 => by
    split at h1
    · rename_i l1 hl1
      exact ⟨μ1, l, st1, w, l1, s1, hl.mono e1, r1, hl1, fun σ' q => h1.here s1 q⟩
    · exact h1.elim
theorem qs_drop {pos : Pos} (he : PE X e (tE Γ Wx ea)) (hs : swapsWith e none pos.line X.env = pure false := by rfl) : PS X (.Expr e pos) (tS Γ Wx (sDrop ea)) :=
  PS_imp (ps_expr he hs) fun D σ H ⟨μ, l, st, hs, hl, h⟩ => tG_bindS hs hl h _ fun w st1 μ1 H1 v e1 s1 r1 h1 => h1.here s1 (hl.mono e1)
theorem qs_ret {pos : Pos} (he : PE X e (tE Γ Wx ea)) : PS X (.Return (some e) pos) (tS Γ Wx (sRet ea)) :=
  PS_imp (ps_ret he) fun D σ H ⟨μ, l, st, hs, hl, h⟩ => tG_bindS hs hl h _ fun w st1 μ1 H1 v e1 s1 r1 h1 => h1 _ _ _ .refl s1 r1
theorem qs_retN {pos : Pos} : PS X (.Return none pos) (tS Γ Wx sRetN) := PS_imp ps_retN fun D σ H ⟨μ, l, st, hs, hl, h⟩ => h _ _ _ .refl hs .non
theorem qs_if {c : Expr} {p q : List Stmt} {bc : Bv} {x y : Sx} {pos : Pos} (hc : PT X c (tT Γ Wx bc)) (ha : PSs X p (tS Γ Wx x)) (hb : PSs X q (tS Γ Wx y)) : PS X (.If c p q pos) (tS Γ Wx (sIf bc x y)) :=
  PS_imp (ps_if hc ha hb) fun D σ H ⟨μ, l, st, hs, hl, h⟩ => tG_bindS hs hl h _ fun w st1 μ1 H1 v e1 s1 r1 h1 => by
    subst r1
    split
    · rename_i hw
      rw [if_pos hw] at h1
      exact ⟨μ1, l, st1, s1, hl.mono e1, h1⟩
    · rename_i hw
      rw [if_neg hw] at h1
      exact ⟨μ1, l, st1, s1, hl.mono e1, h1⟩

def ItOk (Γ : Gm) (J : It) (s : Src) (μ : List Addr) (H : Hp) : Prop := ∀ μ' H' st', Ext Γ.K μ μ' H H' → Sim Γ μ' st' H' → ∀ i, (∀ w, s.at st' i = some (some w) → J.go i H' ∧ ∀ x H'', J.yld i H' x H'' → Ext Γ.K μ' μ' H' H'' ∧ Sim Γ μ' st' H'' ∧ Rep Γ.K μ' H'' w x) ∧ (s.at st' i = some none → J.stop i H')
def tI (Γ : Gm) (Wx : WX) (src : Lo → Sto → Res Src) : TI := fun σ H R => ∃ μ l st, Sim Γ μ st H ∧ LRep Γ.K μ H l σ ∧ match src l st with
  | .ok s st' => ∀ μ' H' J, Ext Γ.K μ μ' H H' → Sim Γ μ' st' H' → ItOk Γ J s μ' H' → R J H'
  | .exc c p st' => ∀ μ' H' d v, Ext Γ.K μ μ' H H' → Sim Γ μ' st' H' → Rep Γ.K μ' H' p v → H' d = some (.xd [(Γ.fld c, v)]) → Wx (.ref (Γ.ec c)) (some d) σ H'
  | .err => False
theorem PI_imp {tg iter : Expr} {t t' : TI} (h : PI X tg iter t) (k : ∀ σ H R, t' σ H R → t σ H R) : PI X tg iter t' := ⟨fun pins s σ H R I q => h.run pins s σ H R I (k _ _ _ q)⟩
theorem PI_or {tg iter : Expr} {t t' : TI} (h : PI X tg iter t) (h' : PI X tg iter t') : PI X tg iter (fun σ H R => t σ H R ∨ t' σ H R) := ⟨fun pins s σ H R I q => q.elim (h.run pins s σ H R I) (h'.run pins s σ H R I)⟩
theorem ItOk.mono {J : It} {s : Src} {μ μ' : List Addr} {H H' : Hp} (h : ItOk Γ J s μ H) (e : Ext Γ.K μ μ' H H') : ItOk Γ J s μ' H' := fun a b c e2 => h a b c (e.trans e2)
theorem qs_for {tg iter : Expr} {body : List Stmt} {n : Nat} {src : Lo → Sto → Res Src} {t : Tg} {x : Sx} {pos : Pos} (hp : PassesOwn (model X.prog X.w) X.A X.env X.xe) (hc : X.calm = true) (hi : PI X tg iter (tI Γ Wx src)) (hg : PG X tg (gT Γ t)) (hb : PSs X body (tS Γ Wx x)) (hs : ∀ x, foldedSetIterable iter X.env x = pure x := by intro _; rfl) :
    PS X (.For tg iter body [] pos) (tS Γ Wx (sFor n src t x)) :=
  PS_imp (ps_for hp hc hi hg hb hs) fun D σ H ⟨μ, l, st, hs, hl, h⟩ => by
    refine ⟨μ, l, st, hs, hl, ?_⟩
    unfold sFor at h
    cases e : src l st with
    | err => rw [e] at h; exact h
    | exc c p st1 =>
      rw [e] at h
      exact fun μ1 H1 d v e1 s1 r1 q1 => h μ1 H1 σ d v e1 s1 (hl.mono e1) r1 q1
    | ok s st1 =>
      rw [e] at h
      intro μ1 H1 J e1 s1 hJ
      have h1 : PostS Γ Wx μ1 H1 D (loopF s t x n 0 l st1) := PostS.mono h e1
      refine ⟨fun i m σ' H' => ∃ μ' l' st', Ext Γ.K μ1 μ' H1 H' ∧ Sim Γ μ' st' H' ∧ LRep Γ.K μ' H' l' σ' ∧ PostS Γ Wx μ' H' D (loopF s t x m i l' st'), ⟨n, μ1, l, st1, .refl, s1, hl.mono e1, h1⟩, ?_⟩
      rintro i m σ' H' ⟨μ2, l2, st2, e2, s2, lr2, h2⟩
      obtain ⟨go, stop⟩ := hJ μ2 H' st2 e2 s2 i
      cases m with
      | zero => exact h2.elim
      | succ m =>
        unfold loopF at h2
        cases ea : s.at st2 i with
        | none => rw [ea] at h2; exact h2.elim
        | some o =>
          cases o with
          | none =>
            rw [ea] at h2
            exact .inl ⟨stop ea, h2.here s2 lr2⟩
          | some w =>
            rw [ea] at h2
            obtain ⟨go1, go2⟩ := go w ea
            refine .inr ⟨go1, fun σ3 H3 => ∃ μ' l' st', Ext Γ.K μ1 μ' H1 H3 ∧ Sim Γ μ' st' H3 ∧ LRep Γ.K μ' H3 l' σ3 ∧ PostS Γ Wx μ' H3 D (loopF s t x m (i + 1) l' st'), fun σ3 H3 q => ⟨m, Nat.lt_succ_self _, q⟩, fun v H3 hy => ?_⟩
            obtain ⟨y1, y2, y3⟩ := go2 v H3 hy
            dsimp only at h2
            cases et : t w l2 st2 with
            | none => rw [et] at h2; exact h2.elim
            | some l3 =>
              rw [et] at h2
              refine ⟨μ2, l2, st2, w, l3, y2, lr2.mono y1, y3, et, fun σ4 lr4 => ⟨μ2, l3, st2, y2, lr4, ?_⟩⟩
              dsimp only at h2
              have e3 := e2.trans y1
              have h2 := PostS.mono h2 y1
              cases eb : x l3 st2 with
              | nx l5 st5 => rw [eb] at h2; exact fun μ6 H6 σ6 e6 s6 lr6 => ⟨μ6, l5, st5, e3.trans e6, s6, lr6, PostS.mono h2 e6⟩
              | ct l5 st5 => rw [eb] at h2; exact fun μ6 H6 σ6 e6 s6 lr6 => ⟨μ6, l5, st5, e3.trans e6, s6, lr6, PostS.mono h2 e6⟩
              | bk l5 st5 => rw [eb] at h2; exact h2
              | rt w5 st5 => rw [eb] at h2; exact h2
              | exc c5 p5 l5 st5 => rw [eb] at h2; exact h2
              | err => rw [eb] at h2; exact h2
theorem qs_while {c : Expr} {body : List Stmt} {n : Nat} {bc : Bv} {x : Sx} {pos : Pos} (hp : PassesOwn (model X.prog X.w) X.A X.env X.xe) (hc : PT X c (tT Γ Wx bc)) (hb : PSs X body (tS Γ Wx x)) :
    PS X (.While c body [] pos) (tS Γ Wx (sWhile n bc x)) :=
  PS_imp (ps_while hp hc hb) fun D σ H ⟨μ, l, st, hs, hl, h⟩ => by
    refine ⟨fun m σ' H' => ∃ μ' l' st', Sim Γ μ' st' H' ∧ LRep Γ.K μ' H' l' σ' ∧ PostS Γ Wx μ' H' D (whileF bc x m l' st'), ⟨n, μ, l, st, hs, hl, h⟩, ?_⟩
    rintro m σ' H' ⟨μ2, l2, st2, s2, lr2, h2⟩
    cases m with
    | zero => exact h2.elim
    | succ m =>
      unfold whileF at h2
      refine tG_bindS s2 lr2 h2 _ fun b st3 μ3 H3 b' e3 s3 r3 h3 => ?_
      subst r3
      cases b with
      | false => exact h3.here s3 (lr2.mono e3)
      | true =>
        refine ⟨fun σ4 H4 => ∃ μ' l' st', Sim Γ μ' st' H4 ∧ LRep Γ.K μ' H4 l' σ4 ∧ PostS Γ Wx μ' H4 D (whileF bc x m l' st'), fun σ4 H4 q => ⟨m, Nat.lt_succ_self _, q⟩, μ3, l2, st3, s3, lr2.mono e3, ?_⟩
        have h3 : PostS Γ Wx μ3 H3 D (match x l2 st3 with | .nx l2 st2 => whileF bc x m l2 st2 | .ct l2 st2 => whileF bc x m l2 st2 | .bk l2 st2 => .nx l2 st2 | r => r) := h3
        cases eb : x l2 st3 with
        | nx l5 st5 => rw [eb] at h3; exact fun μ6 H6 σ6 e6 s6 lr6 => ⟨μ6, l5, st5, s6, lr6, PostS.mono h3 e6⟩
        | ct l5 st5 => rw [eb] at h3; exact fun μ6 H6 σ6 e6 s6 lr6 => ⟨μ6, l5, st5, s6, lr6, PostS.mono h3 e6⟩
        | bk l5 st5 => rw [eb] at h3; exact h3
        | rt w5 st5 => rw [eb] at h3; exact h3
        | exc c5 p5 l5 st5 => rw [eb] at h3; exact h3
        | err => rw [eb] at h3; exact h3

def defn (n : Nat) (body : Sx) : List W → Sto → Res W := fun ws st => match body (ws.map some ++ List.replicate (n - ws.length) none) st with
  | .nx _ st' => trim st.c.length .non st'
  | .rt w st' => trim st.c.length w st'
  | .exc c p _ st' => if (st'.may st.c.length && W.pure p) = true then .exc c p (st'.cut st.c.length) else .exc c p st'
  | _ => .err
/-- what a def promises: run, it ends so -/
def spF (Γ : Gm) (np : Nat) (F : List W → Sto → Res W) : Sp := fun vs H Q E => ∃ μ st ws, Sim Γ μ st H ∧ Reps Γ.K μ H ws vs ∧ ws.length = np ∧ Post Γ (fun cls d _ H => E cls d H) (Rep Γ.K) μ [] H Q (F ws st)
theorem spF_len {np : Nat} {F : List W → Sto → Res W} {vs : List V} {H : Hp} {Q : VK} {E : XK} (h : spF Γ np F vs H Q E) : vs.length = np := by
  obtain ⟨μ, st, ws, hs, hr, hl, _⟩ := h
  rw [← hr.length, hl]
theorem Sim.cutPush {Γ : Gm} {μ : List Addr} {st : Sto} {H : Hp} {n k : Nat} {a : Addr} {ws : List W} (s : Sim Γ μ st H) (h : st.may n = true) (hnk : n ≤ k) (hk : st.c[k]? = some (.lst ws)) (hp : W.pures ws = true) (ha : μ[k]? = some a) :
    Sim Γ (μ.take n ++ [a]) ((st.cut n).push (.lst ws)) H := by
  have s0 := s.cut h
  have kl := (List.getElem?_eq_some_iff.mp hk).1
  have ml := s.len
  have sl : (st.cut n).c.length = n := by simp [Sto.cut]; omega
  have tl : (μ.take n).length = n := by simp; omega
  refine ⟨by simp [Sto.push, sl, tl], fun i j b c d h1 h2 o1 o2 m1 m2 => ?_, fun i c b h1 m1 => ?_, fun i c h1 _ => ?_⟩
  · have key : ∀ (i : Nat) c, (st.cut n).c[i]? = some c → c.own = true → (μ.take n ++ [a])[i]? = some a → False := fun i c h1 o1 m1 => by
      obtain ⟨h1, hi⟩ := getTake h1
      rw [List.getElem?_append_left (by omega)] at m1
      have := s.inj i k a c _ h1 hk o1 rfl (getTake m1).1 ha
      omega
    have at_ : ∀ b, (μ.take n ++ [a])[n]? = some b → b = a := fun b q => by
      rw [List.getElem?_append_right (by omega)] at q
      simp [tl] at q
      exact q.symm
    rcases get_snoc h1 with h1 | ⟨e1, z1⟩
    · rcases get_snoc h2 with h2 | ⟨e2, z2⟩
      · have hi := (getTake h1).2
        have hj := (getTake h2).2
        rw [List.getElem?_append_left (by omega)] at m1 m2
        exact s0.inj i j b c d h1 h2 o1 o2 m1 m2
      · rw [e2, sl] at m2
        have := at_ _ m2
        subst this
        exact (key i c h1 o1 m1).elim
    · rcases get_snoc h2 with h2 | ⟨e2, z2⟩
      · rw [e1, sl] at m1
        have := at_ _ m1
        subst this
        exact (key j d h2 o2 m2).elim
      · omega
  · rcases get_snoc h1 with h1 | ⟨e1, z1⟩
    · have hi := (getTake h1).2
      rw [List.getElem?_append_left (by omega)] at m1
      have q := s0.cell i c b h1 m1
      exact CellOk.ext q ⟨fun j x y => by
        have := (List.getElem?_eq_some_iff.mp y).1
        rw [List.getElem?_append_left this]; exact y, fun _ _ h => h⟩
    · subst z1
      rw [e1, sl, List.getElem?_append_right (by omega)] at m1
      simp [tl] at m1
      subst m1
      obtain ⟨xs, q1, q2⟩ := s.cell k _ _ hk ha
      exact ⟨xs, q1, Reps.pure hp q2⟩
  · rcases get_snoc h1 with h1 | ⟨e1, z1⟩
    · exact s0.back i c h1 (fun k z => by cases z)
    · subst z1
      exact W.pures_low hp
theorem Sim.reloc {Γ : Gm} {μ : List Addr} {st : Sto} {H : Hp} {n : Nat} {ks : List Nat} (s : Sim Γ μ st H) (h : st.may n = true) (hn : n ≤ st.c.length) (g : ReloOk st n ks) :
    Sim Γ (μ.take n ++ ks.map fun k => μ.getD k 0) ⟨st.c.take n ++ ks.map fun k => st.c.getD k (.lst []), none⟩ H := by
  have s0 := s.cut h
  have ml := s.len
  have tl : (μ.take n).length = n := by simp; omega
  have sl : (st.c.take n).length = n := by simp; omega
  have at0 : ∀ (i : Nat) c, (st.c.take n ++ ks.map fun k => st.c.getD k (.lst []))[i]? = some c → (i < n ∧ st.c[i]? = some c) ∨ (∃ q k us, i = n + q ∧ ks[q]? = some k ∧ n ≤ k ∧ st.c[k]? = some c ∧ c = .lst us ∧ W.pures us = true) := fun i c hi => by
    by_cases hl : i < n
    · rw [List.getElem?_append_left (by omega)] at hi
      exact .inl ⟨hl, (getTake hi).1⟩
    · rw [List.getElem?_append_right (by omega), sl, List.getElem?_map] at hi
      cases e : ks[i - n]? with
      | none => rw [e] at hi; cases hi
      | some k =>
        rw [e] at hi
        obtain ⟨h1, us, h2, h3⟩ := g.at' k (List.mem_of_getElem? e)
        have : st.c.getD k (.lst []) = .lst us := by rw [List.getD_eq_getElem?_getD, h2]; rfl
        have hi : some (st.c.getD k (.lst [])) = some c := hi
        rw [this] at hi
        cases hi
        exact .inr ⟨i - n, k, us, by omega, e, h1, h2, rfl, h3⟩
  have ad0 : ∀ (i : Nat) a, i < n → (μ.take n ++ ks.map fun k => μ.getD k 0)[i]? = some a → μ[i]? = some a := fun i a hi ha => by
    rw [List.getElem?_append_left (by omega)] at ha
    exact (getTake ha).1
  have ad1 : ∀ (q k : Nat) a, ks[q]? = some k → (μ.take n ++ ks.map fun k => μ.getD k 0)[n + q]? = some a → μ[k]? = some a := fun q k a hq ha => by
    rw [List.getElem?_append_right (by omega), tl, Nat.add_sub_cancel_left, List.getElem?_map, hq] at ha
    obtain ⟨_, us, h2, _⟩ := g.at' k (List.mem_of_getElem? hq)
    have hk := (List.getElem?_eq_some_iff.mp h2).1
    have ha : some (μ.getD k 0) = some a := ha
    rw [List.getD_eq_getElem?_getD, List.getElem?_eq_getElem (by omega)] at ha
    rw [List.getElem?_eq_getElem (by omega)]
    exact ha
  refine ⟨by simp [s.len], fun i j b c d h1 h2 o1 o2 m1 m2 => ?_, fun i c b h1 m1 => ?_, fun i c h1 _ => ?_⟩
  · rcases at0 i c h1 with ⟨p1, p2⟩ | ⟨q, k, us, rfl, p2, p3, p4, p5, p6⟩
    · rcases at0 j d h2 with ⟨r1, r2⟩ | ⟨q', k', us', rfl, r2, r3, r4, r5, r6⟩
      · exact s.inj i j b c d p2 r2 o1 o2 (ad0 i b p1 m1) (ad0 j b r1 m2)
      · have := s.inj i k' b c d p2 r4 o1 o2 (ad0 i b p1 m1) (ad1 q' k' b r2 m2)
        omega
    · rcases at0 j d h2 with ⟨r1, r2⟩ | ⟨q', k', us', rfl, r2, r3, r4, r5, r6⟩
      · have := s.inj k j b c d p4 r2 o1 o2 (ad1 q k b p2 m1) (ad0 j b r1 m2)
        omega
      · have e := s.inj k k' b c d p4 r4 o1 o2 (ad1 q k b p2 m1) (ad1 q' k' b r2 m2)
        subst e
        obtain ⟨hq, e1⟩ := List.getElem?_eq_some_iff.mp p2
        obtain ⟨hq', e2⟩ := List.getElem?_eq_some_iff.mp r2
        have := (List.getElem_inj (i := q) (j := q') g.nd).mp (e1.trans e2.symm)
        omega
  · rcases at0 i c h1 with ⟨p1, p2⟩ | ⟨q, k, us, rfl, p2, p3, p4, rfl, p6⟩
    · have q1 := s0.cell i c b (by show (st.c.take n)[i]? = _; rw [List.getElem?_take_of_lt p1]; exact p2) (by rw [List.getElem?_take_of_lt p1]; exact ad0 i b p1 m1)
      exact CellOk.ext q1 ⟨fun j x y => by
        have := (List.getElem?_eq_some_iff.mp y).1
        rw [List.getElem?_append_left this]; exact y, fun _ _ h => h⟩
    · obtain ⟨xs, q1, q2⟩ := s.cell k _ _ p4 (ad1 q k b p2 m1)
      exact ⟨xs, q1, Reps.pure p6 q2⟩
  · rcases at0 i c h1 with ⟨p1, p2⟩ | ⟨q, k, us, rfl, p2, p3, p4, rfl, p6⟩
    · exact s0.back i c (by show (st.c.take n)[i]? = _; rw [List.getElem?_take_of_lt p1]; exact p2) (fun k z => by cases z)
    · exact W.pures_low p6
theorem trim_ok {R' : RR W V} {μ μ' : List Addr} {σ : L2.St} {H H' : Hp} {st st' : Sto} {w : W} {v : V} {Q : VK} (h : Post Γ Wx (Rep Γ.K) μ σ H Q (trim st.c.length w st')) (hs : Sim Γ μ st H) (e : Ext Γ.K μ μ' H H') (s : Sim Γ μ' st' H') (r : Rep Γ.K μ' H' w v) : Q v H' := by
  have pre : Ext Γ.K μ (μ'.take st.c.length) H H' := ⟨fun i a q => by
    have := (List.getElem?_eq_some_iff.mp q).1
    have := hs.len
    rw [List.getElem?_take_of_lt (by omega)]
    exact e.pre i a q, e.tup⟩
  unfold trim at h
  split at h
  · rename_i hm
    split at h
    · rename_i hp
      exact h _ _ _ pre (s.cut hm) (r.pure hp)
    · split at h
      · rename_i k _
        split at h
        · rename_i hk
          split at h
          · rename_i ws hc
            split at h
            · rename_i hp
              cases r with
              | ref hr =>
                rename_i a
                refine h _ _ _ ⟨fun i b q => ?_, e.tup⟩ (s.cutPush hm hk hc hp hr) (.ref ?_)
                · have := (List.getElem?_eq_some_iff.mp (pre.pre i b q)).1
                  rw [List.getElem?_append_left this]
                  exact pre.pre i b q
                · have kl := (List.getElem?_eq_some_iff.mp hc).1
                  have ml := s.len
                  have e1 : (st'.cut st.c.length).c.length = (μ'.take st.c.length).length := by simp [Sto.cut, ml]
                  rw [e1, List.getElem?_append_right (Nat.le_refl _)]
                  simp
            · exact h _ _ _ e s r
          · exact h _ _ _ e s r
        · exact h _ _ _ e s r
      · rename_i ws _
        split at h
        · rename_i vs ks hr
          obtain ⟨g1, _, g3⟩ := relo_ok (μ := μ') hr ⟨List.nodup_nil, fun k hk => nomatch hk⟩
          have hn : st.c.length ≤ st'.c.length := by
            rcases Nat.le_total st.c.length st'.c.length with z | z
            · exact z
            · rcases Nat.lt_or_ge st'.c.length st.c.length with y | y
              · exfalso
                have h1 := hs.len
                have h2 := s.len
                have : μ[st'.c.length]? = some μ[st'.c.length] := List.getElem?_eq_getElem (by omega)
                have q := (List.getElem?_eq_some_iff.mp (e.pre _ _ this)).1
                omega
              · exact y
          cases r with
          | tup q1 q2 =>
            have tl : (μ'.take st.c.length).length = st.c.length := by have := s.len; simp; omega
            refine h _ _ _ ⟨fun i b q => ?_, e.tup⟩ (s.reloc hm hn g1) (.tup q1 (g3 (fun q k a hq ha => ?_) q2))
            · have := (List.getElem?_eq_some_iff.mp (pre.pre i b q)).1
              rw [List.getElem?_append_left this]
              exact pre.pre i b q
            · rw [List.getElem?_append_right (by omega), tl, Nat.add_sub_cancel_left, List.getElem?_map, hq]
              show some (μ'.getD k 0) = some a
              rw [List.getD_eq_getElem?_getD, ha]; rfl
        · exact h _ _ _ e s r
      · exact h _ _ _ e s r
  · exact h _ _ _ e s r
end
end RB

set_option Elab.async false
set_option linter.all false
set_option maxRecDepth 100000
set_option maxHeartbeats 4000000
namespace RB
open PySem PySem.Spec PyProof.Rows L2

/-- a def that stands at a name -/
structure Fn (Γ : Gm) (P : Program) (w : World) (mg : Str → Option Value) (base : Heap) (k : Nat) (x : Str) (np : Nat) (dws : List W) (F : List W → Sto → Res W) : Prop where
  ex : ∃ (f : Addr) (fd : FuncData) (ps : List Str) (ds : List Value) (dvs : List V), FnOk P w Γ.K mg base (L2.CX P w) k f fd ps (spF Γ np F) ∧ mg x = some (.ref f) ∧ PySem.W.keepIn Γ.K (.ref f) = true ∧ L2.Binds Γ.K fd ps ds ∧ Vals dvs ds ∧ ∀ μ H, Reps Γ.K μ H dws dvs
def eCall (F : List W → Sto → Res W) (dws : List W) (a : Evs) : Ev := fun l st => (a l st).bind fun ws st1 => F (ws ++ dws) st1
section
variable {P : Program} {w : World} {K : PySem.W.Frag} {mg : Str → Option Value} {base : Heap} {cl ec : Nat → Addr} {fld : Nat → Str}
theorem start_rep {Γ : Gm} {μ : List Addr} {H : Hp} {ws : List W} {vs : List V} (r : Reps Γ.K μ H ws vs) (N : List Str) : LRep Γ.K μ H (ws.map some ++ List.replicate (N.length - ws.length) none) (L2.start N vs) := by
  unfold L2.start
  rw [← r.length]
  refine ⟨by simp [r.length], fun i w h => ?_⟩
  rcases Nat.lt_or_ge i ws.length with q | q
  · rw [List.getElem?_append_left (by simpa using q)] at h
    rw [List.getElem?_map] at h
    cases e : ws[i]? with
    | none => rw [e] at h; cases h
    | some w' =>
      rw [e] at h
      obtain rfl : w' = w := by simpa using h
      obtain ⟨v, h1, h2⟩ := r.get e
      refine ⟨v, ?_, h2⟩
      rw [List.getElem?_append_left (by simp; rw [← r.length]; exact q), List.getElem?_map, h1]
      rfl
  · rw [List.getElem?_append_right (by simpa using q)] at h
    have := List.mem_of_getElem? h
    rw [List.mem_replicate] at this
    exact absurd this.2 (by simp)
theorem body_run {np n : Nat} {N : List Str} {sx : Sx} {vs : List V} {H : Hp} {Q : VK} {E : XK} (hn : N.length = n) (h : spF ⟨K, cl, ec, fld⟩ np (defn n sx) vs H Q E) : tS ⟨K, cl, ec, fld⟩ (fun cls d _ H => E cls d H) sx { nx := fun _ H' => Q .non H', rt := Q } (L2.start N vs) H := by
  obtain ⟨μ, sto, ws, hs, hr, hl, hpo⟩ := h
  refine ⟨μ, _, sto, hs, start_rep (Γ := ⟨K, cl, ec, fld⟩) hr N, ?_⟩
  rw [hn]
  unfold defn at hpo
  generalize sx (ws.map some ++ List.replicate (n - ws.length) none) sto = r at hpo ⊢
  cases r with
  | nx l1 st1 => exact fun μ1 H1 σ1 e1 s1 l1 => trim_ok (R' := fun _ _ _ _ => True) hpo hs e1 s1 .non
  | rt w1 st1 => exact fun μ1 H1 v e1 s1 r1 => trim_ok (R' := fun _ _ _ _ => True) hpo hs e1 s1 r1
  | bk l1 st1 => exact hpo.elim
  | ct l1 st1 => exact hpo.elim
  | err => exact hpo.elim
  | exc c p l1 st1 =>
    intro μ1 H1 σ1 d v e1 s1 _ r1 q1
    have hpo : Post ⟨K, cl, ec, fld⟩ (fun cls d _ H => E cls d H) (Rep K) μ [] H Q (if (st1.may sto.c.length && W.pure p) = true then .exc c p (st1.cut sto.c.length) else .exc c p st1) := hpo
    split at hpo
    · rename_i hm
      rw [Bool.and_eq_true] at hm
      have pre : Ext K μ (μ1.take sto.c.length) H H1 := ⟨fun i a q => by
        have := (List.getElem?_eq_some_iff.mp q).1
        have := hs.len
        rw [List.getElem?_take_of_lt (by omega)]
        exact e1.pre i a q, e1.tup⟩
      exact hpo _ H1 d v pre (s1.cut hm.1) (r1.pure hm.2) q1
    · exact hpo μ1 H1 d v e1 s1 r1 q1
/-- the rule for a def -/
theorem q_ok {x qual : Str} {st : Stmt} {f : Addr} {fd : FuncData} {N ps : List Str} {k np n : Nat} {sx : Sx} (F : L2.Fun K x qual st f fd) (S : FnScope N ps (defScope st)) (hn : N.length = n) (hp : ps.length = np)
    (body : ∀ (cdv : Value) (A : Around) (outer : List Env) (s : Shared) (H : Hp) (E : XK), Room k (A.deeper (envOfC qual (defScope st) s.heap.objs.size f cdv)) →
      PSs (cxOf (L2.CX P w) P w K mg base N qual (defScope st) f cdv A outer s H E) (defBody st) (tS ⟨K, cl, ec, fld⟩ (fun cls d _ H => E cls d H) sx)) : FnOk P w K mg base (L2.CX P w) (k + 1) f fd ps (spF ⟨K, cl, ec, fld⟩ np (defn n sx)) := by
  refine F.okX S (fun vs H Q E h => by rw [hp]; exact spF_len h) (fun cdv A outer s H vs Q E hr h => ⟨_, body cdv A outer s H E hr, body_run hn h⟩)
end
section
variable {X : Cx} {Γ : Gm} {Wx : WX} {e a b o : Expr} {es : List Expr} {ea eb eo : Ev} {eas : Evs}
theorem spF_run {np : Nat} {dws : List W} {dvs : List V} {F : List W → Sto → Res W} {μ : List Addr} {σ : L2.St} {H : Hp} {st : Sto} {ws : List W} {vs : List V} {Q : VK} (hs : Sim Γ μ st H) (hr : Reps Γ.K μ H ws vs) (hd : Reps Γ.K μ H dws dvs) (hl : (ws ++ dws).length = np)
    (h : Post Γ Wx (Rep Γ.K) μ σ H Q (F (ws ++ dws) st)) : spF Γ np F (vs ++ dvs) H Q (WE Wx σ) := by
  refine ⟨μ, st, ws ++ dws, hs, hr.append hd, hl, ?_⟩
  generalize F (ws ++ dws) st = r at h ⊢
  cases r with
  | ok w st1 => exact h
  | exc c p st1 => exact h
  | err => exact h
/-- f(..) -/
theorem qe_call {k np : Nat} {x : Str} {dws : List W} {F : List W → Sto → Res W} {p pos : Pos} (G : Fn Γ X.prog X.w X.mg X.base k x np dws F) (hK : X.K = Γ.K) (hr : Room k X.A) (tk : Takes X Wx) (hg : Gl X x) (ha : PA X (e :: es) (tA Γ Wx eas))
    (hlen : ∀ l st ws st1, eas l st = .ok ws st1 → (ws ++ dws).length = np) (hdb : (x == ("__debug__" : Str)) = false := by decide) (he : starEach (e :: es) X.env = (false, eval e X.env) :: starEach es X.env := by rfl) (hpl : (backTo pos (starEach es X.env)).any (·.1) = false := by rfl) :
    PE X (.Call (.Name x p) (e :: es) [] pos) (tE Γ Wx (eCall F dws eas)) := by
  obtain ⟨f, fd, ps, ds, dvs, F1, hm, hk, hb, hd, hdr⟩ := G.ex
  rw [← hK] at F1 hk hb
  refine PE_imp (pe_callSD F1 hr hg hm hk hb hd (fun σ => passAt tk σ) ha hdb he hpl) fun σ H Q ⟨μ, l, st, hs, hl, h⟩ => ?_
  have hh : ∀ ws st1, eas l st = .ok ws st1 → (ws ++ dws).length = np := fun ws st1 q => hlen l st ws st1 q
  unfold eCall at h
  refine ⟨μ, l, st, hs, hl, ?_⟩
  cases ee : eas l st with
  | ok ws st1 =>
    rw [ee] at h
    exact fun μ1 H1 vs e1 s1 r1 => spF_run s1 r1 (hdr μ1 H1) (hh ws st1 ee) (Post.mono (show Post Γ Wx (Rep Γ.K) μ σ H Q (F (ws ++ dws) st1) from h) e1)
  | exc c p st1 => rw [ee] at h; exact h
  | err => rw [ee] at h; exact h
/-- arguments by their number -/
def evLen (n : Nat) (a : Evs) : Prop := ∀ l st ws st1, a l st = .ok ws st1 → ws.length = n
theorem evLen_nil : evLen 0 evNil := fun l st ws st1 h => by cases h; rfl
theorem bind_ok {α β : Type} {r : Res α} {k : α → Sto → Res β} {b : β} {st : Sto} (h : r.bind k = .ok b st) : ∃ a st1, r = .ok a st1 ∧ k a st1 = .ok b st := by
  cases r with
  | ok a st1 => exact ⟨a, st1, rfl, h⟩
  | exc c p st1 => cases h
  | err => cases h
theorem evLen_cons {n : Nat} (h : evLen n eas) : evLen (n + 1) (evCons ea eas) := fun l st ws st1 q => by
  obtain ⟨x, st2, _, q⟩ := bind_ok q
  obtain ⟨xs, st3, q1, q⟩ := bind_ok q
  cases q
  have := h _ _ _ _ q1
  simpa using this
/-- f(..) with all arguments -/
theorem qe_call1 {k np : Nat} {x : Str} {dws : List W} {F : List W → Sto → Res W} {p pos : Pos} (G : Fn Γ X.prog X.w X.mg X.base k x np dws F) (hK : X.K = Γ.K) (hr : Room k X.A) (tk : Takes X Wx) (hg : Gl X x) (ha : PA X (e :: es) (tA Γ Wx eas)) (m : Nat) (hm : m + dws.length = np)
    (hlen : evLen m eas) (hdb : (x == ("__debug__" : Str)) = false := by decide) (he : starEach (e :: es) X.env = (false, eval e X.env) :: starEach es X.env := by rfl) (hpl : (backTo pos (starEach es X.env)).any (·.1) = false := by rfl) :
    PE X (.Call (.Name x p) (e :: es) [] pos) (tE Γ Wx (eCall F dws eas)) :=
  qe_call G hK hr tk hg ha (fun l st ws st1 q => by rw [List.length_append, hlen l st ws st1 q, hm]) hdb he hpl

def putW (f : Str) (v : W) : List (Str × W) → List (Str × W)
  | [] => [(f, v)]
  | (g, x) :: r => if g = f then (g, v) :: r else (g, x) :: putW f v r
theorem FRep.put {K : PySem.W.Frag} {μ : List Addr} {H : Hp} {f : Str} {w : W} {v : V} (r : Rep K μ H w v) : ∀ {fs : List (Str × W)} {gs : List (Str × V)}, FRep K μ H fs gs → FRep K μ H (putW f w fs) (putF f v gs)
  | _, _, .nil => .cons ⟨rfl, r⟩ .nil
  | (g, x) :: _, (g', y) :: _, .cons a b => by
    obtain ⟨a1, a2⟩ := a
    have a1 : g = g' := a1
    subst a1
    unfold putW putF
    by_cases h : g = f
    · rw [if_pos h, if_pos h]; exact .cons ⟨rfl, r⟩ b
    · rw [if_neg h, if_neg h]; exact .cons ⟨rfl, a2⟩ (FRep.put r b)
theorem FRep.lookup {K : PySem.W.Frag} {μ : List Addr} {H : Hp} {f : Str} {w : W} : ∀ {fs : List (Str × W)} {gs : List (Str × V)}, FRep K μ H fs gs → fs.lookup f = some w → ∃ v, gs.lookup f = some v ∧ Rep K μ H w v
  | _, _, .nil, h => by cases h
  | (g, x) :: r, (g', y) :: s, .cons a b, h => by
    obtain ⟨a1, a2⟩ := a
    have a1 : g = g' := a1
    subst a1
    rw [List.lookup_cons] at h ⊢
    by_cases q : (f == g) = true
    · simp only [q] at h ⊢; cases h; exact ⟨y, rfl, a2⟩
    · simp only [Bool.not_eq_true] at q; simp only [q] at h ⊢; exact FRep.lookup b h
theorem FRep.length {K : PySem.W.Frag} {μ : List Addr} {H : Hp} : ∀ {fs : List (Str × W)} {gs : List (Str × V)}, FRep K μ H fs gs → fs.length = gs.length
  | _, _, .nil => rfl
  | _, _, .cons _ b => congrArg (· + 1) (FRep.length b)
/-- o.f of an instance of the class c -/
def eFld (c : Nat) (f : Str) (a : Ev) : Ev := fun l st => (a l st).bind fun x st1 => match x with
  | .ref n => match st1.c[n]? with
    | some (.ins k fs) => if k = c then (match fs.lookup f with | some v => .ok v st1 | none => .err) else .err
    | _ => .err
  | _ => .err
theorem qe_fld {c : Nat} {f : Str} {pos : Pos} (hK : X.K = Γ.K) (hc : Cls Γ.K (Γ.cl c)) (hn : NoAttr Γ.K (Γ.cl c) f) (ha : PE X a (tE Γ Wx ea)) (hb : attributeBase a f X.env (eval a X.env) = eval a X.env := by rfl) : PE X (.Attribute a f pos) (tE Γ Wx (eFld c f ea)) :=
  PE_imp (pe_fld ha hb) fun σ H Q ⟨μ, l, st, hs, hl, h⟩ => tG_bind hs hl h _ fun w st1 μ1 H1 v e1 s1 r1 h1 => by
    split at h1
    · rename_i n
      split at h1
      · rename_i k fs ec
        split at h1
        · rename_i hk
          subst hk
          split at h1
          · rename_i wv ew
            cases r1 with
            | ref hm =>
              obtain ⟨dx, gs, q1, q2⟩ := s1.cell n _ _ ec hm
              obtain ⟨y, z1, z2⟩ := q2.lookup ew
              rw [hK]
              exact ⟨_, _, dx, gs, y, rfl, q1, hc, hn, z1, h1.here s1 z2⟩
          · exact h1.elim
        · exact h1.elim
      · exact h1.elim
    · exact h1.elim
/-- o.f = e -/
def sFldW (c : Nat) (f : Str) (o e : Ev) : Sx := fun l st => xs (e l st) l fun v st1 => xs (o l st1) l fun x st2 => match x with
  | .ref n => match st2.c[n]? with
    | some (.ins k fs) => if k = c ∧ fs.length < 1000 then .nx l (st2.put n (.ins k (putW f v fs)) (W.low n v)) else .err
    | _ => .err
  | _ => .err
theorem Sim.writeI {μ : List Addr} {st : Sto} {H : Hp} {n c : Nat} {fs fs' : List (Str × W)} {p dx : Addr} {gs gs' : List (Str × V)} {b : Bool} (s : Sim Γ μ st H) (hn : st.c[n]? = some (.ins c fs)) (hm : μ[n]? = some p) (hp : H p = some (.ins (Γ.cl c) dx gs))
    (hc : FRep Γ.K μ (upd H p (.ins (Γ.cl c) dx gs')) fs' gs') (hb : b = true → (Cell.ins c fs).low n = true → (Cell.ins c fs').low n = true) (hE : Ext Γ.K μ μ H (upd H p (.ins (Γ.cl c) dx gs'))) : Sim Γ μ (st.put n (.ins c fs') b) (upd H p (.ins (Γ.cl c) dx gs')) := by
  have hlt := (List.getElem?_eq_some_iff.mp hn).1
  have own : ∀ (i : Nat) d, (st.c.set n (.ins c fs'))[i]? = some d → d.own = true → ∃ d', st.c[i]? = some d' ∧ d'.own = true := fun i d h1 h2 => by
    by_cases z : n = i
    · subst z; exact ⟨_, hn, rfl⟩
    · rw [List.getElem?_set_ne z] at h1; exact ⟨d, h1, h2⟩
  refine ⟨by simp [s.len, Sto.put], fun i j a d e h1 h2 o1 o2 m1 m2 => ?_, fun i d a h1 m1 => ?_, fun i d h1 hk => ?_⟩
  · obtain ⟨d', x1, x2⟩ := own i d h1 o1
    obtain ⟨e', y1, y2⟩ := own j e h2 o2
    exact s.inj i j a d' e' x1 y1 x2 y2 m1 m2
  · by_cases z : n = i
    · subst z
      have h1 : (st.c.set n (.ins c fs'))[n]? = some d := h1
      rw [List.getElem?_set_self hlt] at h1
      cases h1
      rw [hm] at m1; cases m1
      exact ⟨dx, gs', upd_same, hc⟩
    · have h1 : (st.c.set n (.ins c fs'))[i]? = some d := h1
      rw [List.getElem?_set_ne z] at h1
      have q := s.cell i d a h1 m1
      have keep : ∀ {u : HO}, H a = some u → (d.own = true ∨ ∀ C D g, u ≠ .ins C D g) → upd H p (.ins (Γ.cl c) dx gs') a = some u := fun {u} q nl => by
        rw [upd_ne]
        · exact q
        · intro zz
          subst zz
          rcases nl with nl | nl
          · exact z (s.inj n i _ _ d hn h1 rfl nl hm m1)
          · rw [hp] at q; cases q; exact nl _ _ _ rfl
      cases d with
      | lst ws => obtain ⟨xs, h1, h2⟩ := q; exact ⟨xs, keep h1 (.inl rfl), h2.mono hE⟩
      | scr ws =>
        obtain ⟨xs, h1, h2⟩ := q
        refine ⟨xs, ?_, h2.mono hE⟩
        rcases h1 with h1 | ⟨ob, h1⟩
        · exact .inl h1
        · exact .inr ⟨ob, keep h1 (.inr fun _ _ _ z => by cases z)⟩
      | ins c fs => obtain ⟨dx, gs, h1, h2⟩ := q; exact ⟨dx, gs, keep h1 (.inl rfl), h2.mono hE⟩
  · obtain ⟨k1, k2⟩ := mark_lt hk
    have h1 : (st.c.set n (.ins c fs'))[i]? = some d := h1
    by_cases z : n = i
    · subst z
      rw [List.getElem?_set_self hlt] at h1
      cases h1
      cases b with
      | true => exact hb rfl (s.back n _ hn k1)
      | false => exact absurd (k2 rfl) (Nat.lt_irrefl _)
    · rw [List.getElem?_set_ne z] at h1
      exact s.back i d h1 k1
theorem ext_ins {K : PySem.W.Frag} {μ : List Addr} {H : Hp} {p C dx : Addr} {gs gs' : List (Str × V)} (hp : H p = some (.ins C dx gs)) : Ext K μ μ H (upd H p (.ins C dx gs')) := ⟨fun _ _ h => h, fun a xs h => by
  have ne : ∀ {u : HO}, H a = some u → (∀ C D g, u ≠ .ins C D g) → a ≠ p := fun {u} e nl z => by
    subst z
    rw [hp] at e; cases e; exact nl _ _ _ rfl
  rcases h with (h | ⟨ob, h⟩) | h
  · exact .inl (.inl (by rw [upd_ne (ne h fun _ _ _ z => by cases z)]; exact h))
  · exact .inl (.inr ⟨ob, by rw [upd_ne (ne h fun _ _ _ z => by cases z)]; exact h⟩)
  · exact .inr h⟩
theorem low_put {n : Nat} {f : Str} {v : W} (hv : W.low n v = true) : ∀ {fs : List (Str × W)}, W.lows n (fs.map (·.2)) = true → W.lows n ((putW f v fs).map (·.2)) = true
  | [], _ => by simp [putW, W.lows, hv]
  | (g, x) :: r, h => by
    simp [W.lows] at h
    unfold putW
    split
    · simp [W.lows, hv]; simpa using h.2
    · simp [W.lows, h.1]; simpa using low_put (f := f) hv (fs := r) (by simpa using h.2)
theorem qs_fld {c : Nat} {f : Str} {pos pos' : Pos} (hK : X.K = Γ.K) (hc : Cls Γ.K (Γ.cl c)) (hn : NoAttr Γ.K (Γ.cl c) f) (ho : PE X o (tE Γ Wx eo)) (he : PE X e (tE Γ Wx ea)) (hs : swapsWith e (some (.Attribute o f pos')) pos.line X.env = pure false := by rfl) :
    PS X (.Assign [.Attribute o f pos'] e pos) (tS Γ Wx (sFldW c f eo ea)) :=
  PS_imp (ps_fld ho he hs) fun D σ H ⟨μ, l, st, hs, hl, h⟩ => tG_bindS hs hl h _ fun v st1 μ1 H1 vv e1 s1 r1 h1 => tG_bindS s1 (hl.mono e1) h1 _ fun w st2 μ2 H2 wv e2 s2 r2 h2 => by
    split at h2
    · rename_i n
      split at h2
      · rename_i k fs ec
        split at h2
        · rename_i hk
          obtain ⟨hk, hlen⟩ := hk
          subst hk
          cases r2 with
          | ref hm =>
            obtain ⟨dx, gs, q1, q2⟩ := s2.cell n _ _ ec hm
            rw [hK]
            refine ⟨_, _, dx, gs, rfl, q1, hc, hn, by rw [← q2.length]; exact hlen, ?_⟩
            have E : Ext Γ.K μ2 μ2 H2 (upd H2 _ (.ins (Γ.cl k) dx (putF f vv gs))) := ext_ins q1
            exact h2 _ _ _ E (s2.writeI ec hm q1 ((q2.put (r1.mono e2)).mono E) (fun b q => low_put b q) E) (hl.mono (e1.trans (e2.trans E)))
        · exact h2.elim
      · exact h2.elim
    · exact h2.elim
/-- C(..), C a class of one's own with an __init__ -/
structure FnI (Γ : Gm) (P : Program) (w : World) (mg : Str → Option Value) (base : Heap) (k : Nat) (x : Str) (c : Nat) (np : Nat) (dws : List W) (F : List W → Sto → Res W) : Prop where
  ex : ∃ (f : Addr) (fd : FuncData) (ps : List Str) (ds : List Value) (dvs : List V), FnOk P w Γ.K mg base (L2.CX P w) k f fd ps (spF Γ np F) ∧ Mk Γ.K (Γ.cl c) f ∧ mg x = some (.ref (Γ.cl c)) ∧ L2.Binds Γ.K fd ps ds ∧ Vals dvs ds ∧ ∀ μ H, Reps Γ.K μ H dws dvs
def eMake (c : Nat) (F : List W → Sto → Res W) (dws : List W) (a : Evs) : Ev := fun l st => (a l st).bind fun ws st1 => (F (.ref st1.c.length :: (ws ++ dws)) (st1.push (.ins c []))).bind fun v st2 => match v with | .non => .ok (.ref st1.c.length) st2 | _ => .err
/-- a new instance; an exception of its __init__ is told with the slots of the frame -/
theorem make_at {CX : CXT} {k : Nat} {f C : Addr} {fd : FuncData} {ps : List Str} {sp : Sp} {dvs : List V} {ds : List Value} {E : XK} {pins : List (Addr × Obj)} {σ : L2.St} {H : Hp} {s : Shared} {Q : VK} {us : List Value} {vs : List V}
    (M : Mk X.K C f) (G : FnOk X.prog X.w X.K X.mg X.base CX k f fd ps sp) (room : Room (k + 1) X.A) (hb : L2.Binds X.K fd ps ds) (hd : Vals dvs ds) (hx : PassesAt CX X σ E) (I : L2.Inv X pins σ H s) (rv : Vals vs us)
    (hq : ∀ y dy, H y = none → H dy = none → dy ≠ y → sp (.ref y :: (vs ++ dvs)) (upd (upd H dy (.own y)) y (.ins C dy [])) (fun v H2 => v = .non ∧ Q (.ref y) H2) E) : wpAny (model X.prog X.w) X.A (call (.ref C) us) (EP X pins σ Q) X.xe s := by
  have want := hq (s.heap.objs.size + 1) s.heap.objs.size (I.hok.fresh (Nat.le_succ _)) (I.hok.fresh (Nat.le_refl _)) (Nat.ne_of_lt (Nat.lt_succ_self _))
  have J := L2.Inv.made (C := C) I
  have rr : Vals (V.ref (s.heap.objs.size + 1) :: (vs ++ dvs)) (Value.ref (s.heap.objs.size + 1) :: (us ++ ds)) := .cons rfl (rv.append hd)
  have len : (Value.ref (s.heap.objs.size + 1) :: us ++ ds).length = ps.length := by
    have q := rr.length
    rw [G.len _ _ _ _ want] at q
    exact q.symm
  have body := G.run _ X.stack _ _ ⟨Value.ref (s.heap.objs.size + 1) :: us, []⟩ (Value.ref (s.heap.objs.size + 1) :: (us ++ ds)) _ _ E (room.make C us []) (J.env0.make C us []) (hb _ (Value.ref (s.heap.objs.size + 1) :: us) J.kIn len) rr want
  refine wpAny_call (make_map (f := f) I.kIn M.makes M.init (beq_iff_eq.mp M.fn) (codeAny_mono body fun res s2 h2 => ?_))
  match res, h2 with
  | .error er, h2 => exact hx pins _ _ er s2 J h2
  | .ok (.ret u), h2 =>
    obtain ⟨v, H3, J3, r3, e3, q3⟩ := J.after h2
    cases e3
    exact ⟨r3, V.ref (s.heap.objs.size + 1), H3, J3, rfl, q3⟩
  | .ok .next, h2 => exact h2.elim
  | .ok .brk, h2 => exact h2.elim
  | .ok .cont, h2 => exact h2.elim
theorem qe_make {k np c : Nat} {x : Str} {dws : List W} {F : List W → Sto → Res W} {p pos : Pos} (G : FnI Γ X.prog X.w X.mg X.base k x c np dws F) (hK : X.K = Γ.K) (hr : Room (k + 1) X.A) (tk : Takes X Wx) (hg : Gl X x) (ha : PA X (e :: es) (tA Γ Wx eas)) (m : Nat) (hm : m + dws.length + 1 = np)
    (hlen : evLen m eas) (hdb : (x == ("__debug__" : Str)) = false := by decide) (he : starEach (e :: es) X.env = (false, eval e X.env) :: starEach es X.env := by rfl) (hpl : (backTo pos (starEach es X.env)).any (·.1) = false := by rfl) :
    PE X (.Call (.Name x p) (e :: es) [] pos) (tE Γ Wx (eMake c F dws eas)) := by
  obtain ⟨f, fd, ps, ds, dvs, F1, M, hmg, hb, hd, hdr⟩ := G.ex
  rw [← hK] at F1 M hb
  refine ⟨fun pins s σ H Q I hh => ?_⟩
  obtain ⟨μ, l, st, hs, hl, h⟩ := hh
  refine wpAny_Call_Name_kw (ld_glob I hg hmg ?_ hdb)
  have hE : tA Γ Wx eas σ H (fun vs H1 => ∀ y dy, H1 y = none → H1 dy = none → dy ≠ y → spF Γ np F (.ref y :: (vs ++ dvs)) (upd (upd H1 dy (.own y)) y (.ins (Γ.cl c) dy [])) (fun v H2 => v = .non ∧ Q (.ref y) H2) (WE Wx σ)) := by
    refine ⟨μ, l, st, hs, hl, ?_⟩
    unfold eMake at h
    cases ee : eas l st with
    | err => rw [ee] at h; exact h
    | exc c p st1 => rw [ee] at h; exact h
    | ok ws st1 =>
      rw [ee] at h
      intro μ1 H1 vs e1 s1 r1 y dy hy hdy hne
      have h1 : Post Γ Wx (Rep Γ.K) μ1 σ H1 Q ((F (.ref st1.c.length :: (ws ++ dws)) (st1.push (.ins c []))).bind fun v st2 => match v with | .non => .ok (.ref st1.c.length) st2 | _ => .err) := Post.mono h e1
      have E1 : Ext Γ.K μ1 μ1 H1 (upd H1 dy (.own y)) := ext_upd (.inl hdy)
      have n1 : upd H1 dy (.own y) y = none := by rw [upd_ne (Ne.symm hne)]; exact hy
      have E2 : Ext Γ.K μ1 (μ1 ++ [y]) (upd H1 dy (.own y)) (upd (upd H1 dy (.own y)) y (.ins (Γ.cl c) dy [])) := ext_new n1
      have S2 : Sim Γ (μ1 ++ [y]) (st1.push (.ins c [])) (upd (upd H1 dy (.own y)) y (.ins (Γ.cl c) dy [])) := (s1.other hdy).new n1 ⟨dy, [], upd_same, .nil⟩ rfl
      have E3 := E1.trans E2
      refine ⟨μ1 ++ [y], _, .ref st1.c.length :: (ws ++ dws), S2, .cons (.ref (by rw [← s1.len]; simp)) ((r1.mono E3).append (hdr _ _)), ?_, ?_⟩
      · rw [List.length_cons, List.length_append, hlen l st ws st1 ee, hm]
      · have h2 := Post.mono h1 E3
        generalize F (.ref st1.c.length :: (ws ++ dws)) (st1.push (.ins c [])) = r at h2 ⊢
        cases r with
        | err => exact h2
        | exc c p st2 => exact h2
        | ok w st2 =>
          intro μ4 H4 v e4 s4 r4
          cases w with
          | non =>
            cases r4
            exact ⟨rfl, h2 μ4 H4 _ e4 s4 (.ref (e4.pre _ _ (by rw [← s1.len]; simp)))⟩
          | _ => exact h2.elim
  refine PySem.W.callWith_K (h₀ := X.base) I.ok.mod.kin M.kp (thn (ha.run pos pins s σ H _ I hE) fun us s1 ⟨vs, H1, I1, r, q⟩ => ⟨I1.kIn, ?_⟩) he hpl
  exact make_at M F1 hr hb hd (passAt tk σ) I1 r q
end
end RB

set_option Elab.async false
set_option linter.all false
set_option maxRecDepth 100000
set_option maxHeartbeats 4000000
namespace RB
open PySem PySem.Spec PyProof.Rows L2

mutual
def W.dat : Nat → W → Option PyData
  | _, .non => some .none
  | _, .bl b => some (.bool b)
  | _, .int i => some (.int i)
  | _, .str x => if PyData.strOk x = true then some (.str x) else none
  | n + 1, .tup ws => (W.dats n ws).map .tuple
  | 0, .tup _ => none
  | _, .ref _ => none
def W.dats : Nat → List W → Option (List PyData)
  | _, [] => some []
  | n, w :: ws => match W.dat n w, W.dats n ws with
    | some d, some ds => some (d :: ds)
    | _, _ => none
end
def datOf (st : Sto) : W → Option PyData
  | .ref n => match getL st n with | some ws => (W.dats 8 ws).map .list | none => none
  | w => W.dat 9 w
section
variable {K : PySem.W.Frag} {μ : List Addr} {H : Hp}
mutual
theorem dat_rep {v : V} {d : PyData} : ∀ {n : Nat} {w : W}, W.dat n w = some d → Rep K μ H w v → Dp K H v d ∧ d.canLay0 = true ∧ d.depth ≤ n
  | n, .non, h, .non => by cases n <;> (simp only [W.dat] at h; cases h; exact ⟨.non, rfl, Nat.zero_le _⟩)
  | n, .bl b, h, .bl _ => by cases n <;> (simp only [W.dat] at h; cases h; exact ⟨.bl b, rfl, Nat.zero_le _⟩)
  | n, .int b, h, .int _ => by cases n <;> (simp only [W.dat] at h; cases h; exact ⟨.int b, rfl, Nat.zero_le _⟩)
  | n, .str b, h, .str _ => by
    have h : (if PyData.strOk b = true then some (PyData.str b) else none) = some d := by cases n <;> simpa only [W.dat] using h
    split at h
    · rename_i q
      cases h
      exact ⟨.str b, q, Nat.zero_le _⟩
    · cases h
  | 0, .tup ws, h, _ => by simp [W.dat] at h
  | n + 1, .tup ws, h, .tup a b => by
    simp only [W.dat] at h
    cases e : W.dats n ws with
    | none => rw [e] at h; cases h
    | some ds =>
      rw [e] at h
      cases h
      obtain ⟨h1, h2, h3⟩ := dats_rep e b
      exact ⟨.tup a h1, by simpa [PyData.canLay0] using h2, by simp only [PyData.depth]; omega⟩
  | 0, .ref k, h, _ => by simp [W.dat] at h
  | n + 1, .ref k, h, _ => by simp [W.dat] at h
theorem dats_rep : ∀ {n : Nat} {ws : List W} {vs : List V} {ds : List PyData}, W.dats n ws = some ds → Reps K μ H ws vs → DpAll K H vs ds ∧ PyData.canLayAll0 ds = true ∧ PyData.depthAll ds ≤ n
  | n, [], _, ds, h, .nil => by cases n <;> (simp only [W.dats] at h; cases h; exact ⟨.nil, rfl, Nat.zero_le _⟩)
  | n, w :: ws, _, ds, h, .cons a b => by
    have h : (match W.dat n w, W.dats n ws with | some d, some ds => some (d :: ds) | _, _ => none) = some ds := by cases n <;> simpa only [W.dats] using h
    cases e1 : W.dat n w with
    | none => rw [e1] at h; cases h
    | some d =>
      cases e2 : W.dats n ws with
      | none => rw [e1, e2] at h; cases h
      | some es =>
        rw [e1, e2] at h
        cases h
        obtain ⟨x1, x2, x3⟩ := dat_rep e1 a
        obtain ⟨y1, y2, y3⟩ := dats_rep e2 b
        refine ⟨.cons x1 y1, by simp [PyData.canLayAll0, x2, y2], ?_⟩
        simp only [PyData.depthAll]
        omega
end
theorem shaped_of {d : PyData} {n : Nat} (h : d.canLay0 = true) (h2 : d.depth ≤ n) (hn : n ≤ 64) : SeqAt.shaped d = true := by
  unfold SeqAt.shaped
  rw [h, decide_eq_true (by omega)]
  rfl
theorem datOf_rep {Γ : Gm} {st : Sto} {w : W} {v : V} {d : PyData} (hs : Sim Γ μ st H) (h : datOf st w = some d) (r : Rep Γ.K μ H w v) : Dp Γ.K H v d ∧ SeqAt.shaped d = true := by
  have key : ∀ {w : W} {v : V}, W.dat 9 w = some d → Rep Γ.K μ H w v → Dp Γ.K H v d ∧ SeqAt.shaped d = true := fun {w v} h r => by
    obtain ⟨h1, h2, h3⟩ := dat_rep h r
    exact ⟨h1, shaped_of h2 h3 (by decide)⟩
  cases w with
  | ref n =>
    simp only [datOf] at h
    cases e : getL st n with
    | none => rw [e] at h; cases h
    | some ws =>
      rw [e] at h
      cases e2 : W.dats 8 ws with
      | none => simp only [e2] at h; cases h
      | some ds =>
        simp only [e2] at h
        cases h
        obtain ⟨a, xs, rfl, h1, h2⟩ := getL_rep hs e r
        obtain ⟨x1, x2, x3⟩ := dats_rep e2 h2
        refine ⟨.lst h1 x1, shaped_of (n := 9) (by simpa [PyData.canLay0] using x2) (by simp only [PyData.depth]; omega) (by decide)⟩
  | non => exact key h r
  | bl b => exact key h r
  | int b => exact key h r
  | str b => exact key h r
  | tup ws => exact key h r
end

def wEq (x y : W) (st : Sto) : Res W := match datOf st x, datOf st y with | some d, some e => .ok (.bl (PyData.eqv d e)) st | _, _ => .err
def wNe (x y : W) (st : Sto) : Res W := match datOf st x, datOf st y with | some d, some e => .ok (.bl (!PyData.eqv d e)) st | _, _ => .err
def seqOf (st : Sto) : W → Option (List W)
  | .tup ws => some ws
  | .ref n => getL st n
  | _ => none
def wIn (x y : W) (st : Sto) : Res W := match datOf st x, (seqOf st y).bind (W.dats 8) with | some d, some es => .ok (.bl (es.any fun z => PyData.eqv z d)) st | _, _ => .err
def wNotIn (x y : W) (st : Sto) : Res W := match datOf st x, (seqOf st y).bind (W.dats 8) with | some d, some es => .ok (.bl (!es.any fun z => PyData.eqv z d)) st | _, _ => .err
def wIsN (x y : W) (st : Sto) : Res W := match y with | .non => .ok (.bl (match x with | .non => true | _ => false)) st | _ => .err
def wNotN (x y : W) (st : Sto) : Res W := match y with | .non => .ok (.bl (match x with | .non => false | _ => true)) st | _ => .err
def wAdd (x y : W) (st : Sto) : Res W := match x, y with
  | .int a, .int b => .ok (.int (a + b)) st
  | .tup a, .tup b => if a.length + b.length ≤ 1000000 then .ok (.tup (a ++ b)) st else .err
  | .str a, .str b => if a.length + b.length ≤ 1000000 then .ok (.str (a ++ b)) st else .err
  | .ref m, .ref n => match st.c[m]?, st.c[n]? with
    | some (.lst a), some (.lst b) => if a.length + b.length ≤ 1000000 then .ok (.ref st.c.length) (st.push (.lst (a ++ b))) else .err
    | _, _ => .err
  | _, _ => .err
def wSub (x y : W) (st : Sto) : Res W := match x, y with | .int a, .int b => .ok (.int (a - b)) st | _, _ => .err
def mulOk (a b : Int) : Bool := decide (a.natAbs.log2 + b.natAbs.log2 < 100000000)
theorem mulOk_ok {a b : Int} (h : mulOk a b = true) : CMulX a b := by
  have h2 : a.natAbs.log2 + b.natAbs.log2 < 100000000 := of_decide_eq_true h
  have e : ∀ x : Int, Builtin.Int.intBits x ≤ x.natAbs.log2 + 1 := fun x => by
    unfold Builtin.Int.intBits
    split
    · exact Nat.zero_le _
    · exact Nat.le_refl _
  have := e a
  have := e b
  unfold CMulX
  omega
def wMulI (x y : W) (st : Sto) : Res W := match x, y with | .int a, .int b => if mulOk a b = true then .ok (.int (a * b)) st else .err | _, _ => .err
def divOk (b : Int) : Bool := decide (0 < b) && decide (b.natAbs.log2 < 9000)
def wDiv (x y : W) (st : Sto) : Res W := match x, y with | .int a, .int b => if divOk b = true then .ok (.int (a / b)) st else .err | _, _ => .err
def wMod (x y : W) (st : Sto) : Res W := match x, y with | .int a, .int b => if 0 < b then .ok (.int (a % b)) st else .err | _, _ => .err
def wLt (x y : W) (st : Sto) : Res W := match x, y with | .int a, .int b => .ok (.bl (decide (a < b))) st | _, _ => .err
def wLe (x y : W) (st : Sto) : Res W := match x, y with | .int a, .int b => .ok (.bl (decide (a ≤ b))) st | _, _ => .err
def wGt (x y : W) (st : Sto) : Res W := match x, y with | .int a, .int b => .ok (.bl (decide (b < a))) st | _, _ => .err
def wGe (x y : W) (st : Sto) : Res W := match x, y with | .int a, .int b => .ok (.bl (decide (b ≤ a))) st | _, _ => .err
section
variable {X : Cx} {Γ : Gm} {Wx : WX}
theorem ok_eq (hK : X.K = Γ.K) : OpOk Γ (rEqD X.K) wEq := fun Wx μ σ H st wx wy x y Q hs rx ry h => by
  unfold wEq at h
  split at h
  · rename_i d e h1 h2
    rw [hK]
    obtain ⟨a1, a2⟩ := datOf_rep hs h1 rx
    obtain ⟨b1, b2⟩ := datOf_rep hs h2 ry
    exact ⟨d, e, a1, b1, a2, b2, h.here hs (.bl _)⟩
  · exact h.elim
theorem ok_ne (hK : X.K = Γ.K) : OpOk Γ (rNeD X.K) wNe := fun Wx μ σ H st wx wy x y Q hs rx ry h => by
  unfold wNe at h
  split at h
  · rename_i d e h1 h2
    rw [hK]
    obtain ⟨a1, a2⟩ := datOf_rep hs h1 rx
    obtain ⟨b1, b2⟩ := datOf_rep hs h2 ry
    exact ⟨d, e, a1, b1, a2, b2, h.here hs (.bl _)⟩
  · exact h.elim
/-- in, in a tuple or a list of plain data -/
def rInQ (K : PySem.W.Frag) (neg : Bool) : R2 := fun x y H Q => ∃ d ds, Dp K H x d ∧ (Dp K H y (.list ds) ∨ Dp K H y (.tuple ds)) ∧ SeqAt.shaped d = true ∧ SeqAt.shaped (.list ds) = true ∧ Q (.bl (if neg = true then !(ds.any fun z => PyData.eqv z d) else ds.any fun z => PyData.eqv z d)) H
theorem op_inQ (hu : X.A.units + 65 < cLine) : OpR X (compareOp .In) (rInQ X.K false) := by
  intro ps st σ H x y v u Q I rx ry want
  obtain ⟨d, ds, hd, he, sd, se, q⟩ := want
  have cl : PyData.canLayAll0 ds = true := SeqAt.canLay_of_shaped se
  obtain ⟨as, r1⟩ := Dp.reads I d x v hd rx
  rcases he with he | he
  · obtain ⟨bs, r2⟩ := Dp.reads I (.list ds) y u he ry
    exact SeqAt.in_list_reads r2 r1 cl (SeqAt.canLay_of_shaped sd) (room_in_shaped sd hu) ⟨.bl _, H, I, rfl, q⟩
  · obtain ⟨bs, r2⟩ := Dp.reads I (.tuple ds) y u he ry
    exact SeqAt.in_tuple_reads r2 r1 cl (SeqAt.canLay_of_shaped sd) (room_in_shaped sd hu) ⟨.bl _, H, I, rfl, q⟩
theorem op_notInQ (hu : X.A.units + 65 < cLine) : OpR X (compareOp .NotIn) (rInQ X.K true) := by
  intro ps st σ H x y v u Q I rx ry want
  obtain ⟨d, ds, hd, he, sd, se, q⟩ := want
  have cl : PyData.canLayAll0 ds = true := SeqAt.canLay_of_shaped se
  obtain ⟨as, r1⟩ := Dp.reads I d x v hd rx
  rcases he with he | he
  · obtain ⟨bs, r2⟩ := Dp.reads I (.list ds) y u he ry
    exact SeqAt.notIn_list_reads r2 r1 cl (SeqAt.canLay_of_shaped sd) (room_in_shaped sd hu) ⟨.bl _, H, I, rfl, q⟩
  · obtain ⟨bs, r2⟩ := Dp.reads I (.tuple ds) y u he ry
    exact SeqAt.notIn_tuple_reads r2 r1 cl (SeqAt.canLay_of_shaped sd) (room_in_shaped sd hu) ⟨.bl _, H, I, rfl, q⟩
theorem seqOf_rep {μ : List Addr} {H : Hp} {st : Sto} {w : W} {v : V} {ws : List W} (hs : Sim Γ μ st H) (h : seqOf st w = some ws) (r : Rep Γ.K μ H w v) : ∃ a xs, v = .ref a ∧ (SqL Γ.K H a xs ∨ SqT Γ.K H a xs) ∧ Reps Γ.K μ H ws xs := by
  cases w with
  | tup ws' => cases h; cases r with | tup a b => exact ⟨_, _, rfl, .inr a, b⟩
  | ref n => obtain ⟨a, xs, e, h1, h2⟩ := getL_rep hs h r; exact ⟨a, xs, e, .inl h1, h2⟩
  | _ => cases h
theorem inQ_rep {μ : List Addr} {H : Hp} {st : Sto} {w : W} {v : V} {es : List PyData} (hs : Sim Γ μ st H) (h : (seqOf st w).bind (W.dats 8) = some es) (r : Rep Γ.K μ H w v) : (Dp Γ.K H v (.list es) ∨ Dp Γ.K H v (.tuple es)) ∧ SeqAt.shaped (.list es) = true := by
  cases e : seqOf st w with
  | none => rw [e] at h; cases h
  | some ws =>
    rw [e] at h
    obtain ⟨a, xs, rfl, h1, h2⟩ := seqOf_rep hs e r
    obtain ⟨x1, x2, x3⟩ := dats_rep (n := 8) h h2
    refine ⟨?_, shaped_of (n := 9) (by simpa [PyData.canLay0] using x2) (by simp only [PyData.depth]; omega) (by decide)⟩
    rcases h1 with h1 | h1
    · exact .inl (.lst h1 x1)
    · exact .inr (.tup h1 x1)
theorem ok_in (hK : X.K = Γ.K) : OpOk Γ (rInQ X.K false) wIn := fun Wx μ σ H st wx wy x y Q hs rx ry h => by
  unfold wIn at h
  split at h
  · rename_i d e h1 h2
    rw [hK]
    obtain ⟨a1, a2⟩ := datOf_rep hs h1 rx
    obtain ⟨b1, b2⟩ := inQ_rep hs h2 ry
    exact ⟨d, e, a1, b1, a2, b2, h.here hs (.bl _)⟩
  · exact h.elim
theorem ok_notIn (hK : X.K = Γ.K) : OpOk Γ (rInQ X.K true) wNotIn := fun Wx μ σ H st wx wy x y Q hs rx ry h => by
  unfold wNotIn at h
  split at h
  · rename_i d e h1 h2
    rw [hK]
    obtain ⟨a1, a2⟩ := datOf_rep hs h1 rx
    obtain ⟨b1, b2⟩ := inQ_rep hs h2 ry
    exact ⟨d, e, a1, b1, a2, b2, h.here hs (.bl _)⟩
  · exact h.elim
theorem ok_isN : OpOk Γ (fun x y H Q => y = .non ∧ Q (.bl (decide (x = .non))) H) wIsN := fun Wx μ σ H st wx wy x y Q hs rx ry h => by
  unfold wIsN at h
  split at h
  · cases ry
    refine ⟨rfl, ?_⟩
    have q := h.here hs (.bl _)
    cases rx <;> exact q
  · exact h.elim
theorem ok_notN : OpOk Γ (fun x y H Q => y = .non ∧ Q (.bl (!decide (x = .non))) H) wNotN := fun Wx μ σ H st wx wy x y Q hs rx ry h => by
  unfold wNotN at h
  split at h
  · cases ry
    refine ⟨rfl, ?_⟩
    have q := h.here hs (.bl _)
    cases rx <;> exact q
  · exact h.elim
theorem ok_int {g : Int → Int → V} {C : Int → Int → Prop} {op : W → W → Sto → Res W} {f : Int → Int → W} (hf : ∀ i j K μ H, Rep K μ H (f i j) (g i j)) (h1 : ∀ i j st, (op (.int i) (.int j) st = .ok (f i j) st ∧ C i j) ∨ op (.int i) (.int j) st = .err)
    (h2 : ∀ x y st, (∃ i j, x = .int i ∧ y = .int j) ∨ op x y st = .err) : OpOk Γ (rI C g) op := fun Wx μ σ H st wx wy x y Q hs rx ry h => by
  rcases h2 wx wy st with ⟨i, j, rfl, rfl⟩ | e
  · rcases h1 i j st with ⟨e, c⟩ | e
    · rw [e] at h
      cases rx
      cases ry
      exact ⟨i, j, rfl, rfl, c, h.here hs (hf i j _ _ _)⟩
    · rw [e] at h; exact h.elim
  · rw [e] at h; exact h.elim
theorem ok_int0 {g : Int → Int → V} {op : W → W → Sto → Res W} {f : Int → Int → W} (hf : ∀ i j K μ H, Rep K μ H (f i j) (g i j)) (h1 : ∀ i j st, op (.int i) (.int j) st = .ok (f i j) st) (h2 : ∀ x y st, (∃ i j, x = .int i ∧ y = .int j) ∨ op x y st = .err) : OpOk Γ (rI0 g) op :=
  fun Wx μ σ H st wx wy x y Q hs rx ry h => by
  rcases h2 wx wy st with ⟨i, j, rfl, rfl⟩ | e
  · rw [h1 i j st] at h
    cases rx
    cases ry
    exact ⟨i, j, rfl, rfl, h.here hs (hf i j _ _ _)⟩
  · rw [e] at h; exact h.elim
local macro_rules | `(tactic| trivial) => `(tactic| (intro x y st; cases x <;> cases y <;> first | exact .inr rfl | exact .inl ⟨_, _, rfl, rfl⟩))
theorem ok_sub : OpOk Γ (rI0 fun i j => .int (i - j)) wSub := ok_int0 (fun _ _ _ _ _ => .int _) (fun _ _ _ => rfl) (by trivial)
theorem ok_lt : OpOk Γ (rI0 fun i j => .bl (decide (i < j))) wLt := ok_int0 (fun _ _ _ _ _ => .bl _) (fun _ _ _ => rfl) (by trivial)
theorem ok_le : OpOk Γ (rI0 fun i j => .bl (decide (i ≤ j))) wLe := ok_int0 (fun _ _ _ _ _ => .bl _) (fun _ _ _ => rfl) (by trivial)
theorem ok_gt : OpOk Γ (rI0 fun i j => .bl (decide (j < i))) wGt := ok_int0 (fun _ _ _ _ _ => .bl _) (fun _ _ _ => rfl) (by trivial)
theorem ok_ge : OpOk Γ (rI0 fun i j => .bl (decide (j ≤ i))) wGe := ok_int0 (fun _ _ _ _ _ => .bl _) (fun _ _ _ => rfl) (by trivial)
theorem ok_mulI : OpOk Γ (rI CMulX fun i j => .int (i * j)) wMulI := ok_int (fun _ _ _ _ _ => .int _) (fun i j st => by
  by_cases h : mulOk i j = true
  · exact .inl ⟨if_pos h, mulOk_ok h⟩
  · exact .inr (if_neg h)) (by trivial)
theorem ok_div : OpOk Γ (rI CDivW fun i j => .int (i / j)) wDiv := ok_int (fun _ _ _ _ _ => .int _) (fun i j st => by
  by_cases h : divOk j = true
  · refine .inl ⟨if_pos h, ?_⟩
    unfold divOk at h
    rw [Bool.and_eq_true] at h
    exact ⟨of_decide_eq_true h.1, of_decide_eq_true h.2⟩
  · exact .inr (if_neg h)) (by trivial)
theorem ok_mod : OpOk Γ (rI (fun _ j => 0 < j) fun i j => .int (i % j)) wMod := ok_int (fun _ _ _ _ _ => .int _) (fun i j st => by
  by_cases h : 0 < j
  · exact .inl ⟨if_pos h, h⟩
  · exact .inr (if_neg h)) (by trivial)
theorem le_line {n : Nat} (h : n ≤ 1000000) : n ≤ sizeLine := by rw [sizeLine_eq]; omega
abbrev rAddQ (K : PySem.W.Frag) : R2 := fun x y H Q => (rI0 (fun i j => .int (i + j)) x y H Q) ∨ (rCatA K x y H Q) ∨ ((∃ i j, x = .str i ∧ y = .str j ∧ i.length + j.length ≤ sizeLine ∧ Q (.str (i ++ j)) H) ∨ rCat x y H Q)
theorem op_addQ : OpR X (binaryOp .Add) (rAddQ X.K) := .or op_add (.or op_catA (.or op_add_str op_cat))
theorem ok_add (hK : X.K = Γ.K) : OpOk Γ (rAddQ X.K) wAdd := fun Wx μ σ H st wx wy x y Q hs rx ry h => by
  rw [hK]
  cases wx with
  | int a =>
    cases wy with
    | int b => cases rx; cases ry; exact .inl ⟨a, b, rfl, rfl, h.here hs (.int _)⟩
    | _ => exact h.elim
  | tup a =>
    cases wy with
    | tup b =>
      simp only [wAdd] at h
      split at h
      · rename_i hlen
        cases rx with
        | tup q1 q2 =>
          cases ry with
          | tup p1 p2 =>
            rename_i aa xs bb ys
            refine .inr (.inl ⟨_, _, _, _, rfl, rfl, q1, p1, by rw [← q2.length, ← p2.length]; exact le_line hlen, fun e => ?_, fun _ e => ?_, fun _ _ p hp => ?_⟩)
            · subst e
              cases q2
              exact h.here hs (.tup p1 (by simpa using p2))
            · subst e
              cases p2
              exact h.here hs (.tup q1 (by simpa using q2))
            · have E : Ext Γ.K μ μ H (upd H p (.tup (xs ++ ys))) := ext_upd (.inl hp)
              exact h _ _ _ E (hs.other hp) (.tup (.inl (.inl upd_same)) ((q2.append p2).mono E))
      · exact h.elim
    | _ => exact h.elim
  | str a =>
    cases wy with
    | str b =>
      simp only [wAdd] at h
      split at h
      · rename_i hlen
        cases rx; cases ry
        exact .inr (.inr (.inl ⟨a, b, rfl, rfl, le_line hlen, h.here hs (.str _)⟩))
      · exact h.elim
    | _ => exact h.elim
  | ref m =>
    cases wy with
    | ref n =>
      simp only [wAdd] at h
      split at h
      · rename_i a b e1 e2
        split at h
        · rename_i hlen
          cases rx with
          | ref hm =>
            cases ry with
            | ref hn =>
              obtain ⟨xs, q1, q2⟩ := hs.cell m _ _ e1 hm
              obtain ⟨ys, p1, p2⟩ := hs.cell n _ _ e2 hn
              refine .inr (.inr (.inr ⟨_, _, xs, ys, rfl, rfl, q1, p1, by rw [← q2.length, ← p2.length]; exact le_line hlen, fun p hp => ?_⟩))
              have E : Ext Γ.K μ (μ ++ [p]) H (upd H p (.lst (xs ++ ys))) := ext_new hp
              have r := q2.append p2
              exact h _ _ _ E (hs.new hp ⟨_, upd_same, r.mono E⟩ (r.low (Nat.le_of_eq hs.len))) (.ref (by rw [← hs.len]; simp))
        · exact h.elim
      · exact h.elim
    | _ => exact h.elim
  | _ => exact h.elim

def wIx (x y : W) (st : Sto) : Res W := match y with
  | .int i => match seqOf st x with
    | some ws => match atI ws i with | some w => .ok w st | none => .err
    | none => .err
  | _ => .err
theorem atI_rep {μ : List Addr} {H : Hp} {K : PySem.W.Frag} {ws : List W} {xs : List V} {i : Int} {w : W} (r : Reps K μ H ws xs) (h : atI ws i = some w) : ∃ v, atI xs i = some v ∧ Rep K μ H w v := by
  unfold atI at h ⊢
  rw [← r.length]
  cases e : ixN ws.length i with
  | none => rw [e] at h; cases h
  | some j => rw [e] at h; exact r.get h
theorem ok_ix (hK : X.K = Γ.K) : OpOk Γ (rIx X.K) wIx := fun Wx μ σ H st wx wy x y Q hs rx ry h => by
  rw [hK]
  unfold wIx at h
  split at h
  · split at h
    · rename_i i _ ws e
      split at h
      · rename_i w ew
        cases ry
        obtain ⟨a, xs, rfl, h1, h2⟩ := seqOf_rep hs e rx
        obtain ⟨v, z1, z2⟩ := atI_rep h2 ew
        rcases h1 with h1 | h1
        · exact .inl ⟨a, xs, i, v, rfl, rfl, h1, z1, h.here hs z2⟩
        · exact .inr (.inl ⟨a, xs, i, v, rfl, rfl, h1, z1, h.here hs z2⟩)
      · exact h.elim
    · exact h.elim
  · exact h.elim
theorem qe_ix {a b : Expr} {ea eb : Ev} {pos : Pos} (hK : X.K = Γ.K) (ha : PE X a (tE Γ Wx ea)) (hb : PE X b (tE Γ Wx eb)) (hs : PlainIx b := by exact fun _ _ => rfl) : PE X (.Subscript a b pos) (tE Γ Wx (eBin wIx ea eb)) :=
  PE_imp (pe_ix ix_seq ha hb hs) fun σ H Q h => tOp_run (ok_ix hK) σ H Q h
end
end RB

set_option Elab.async false
set_option linter.all false
set_option maxRecDepth 100000
set_option maxHeartbeats 4000000
namespace RB
open PySem PySem.Spec PyProof.Rows L2

def fLen (ws : List W) (st : Sto) : Res W := match ws with
  | [.str z] => if z.length ≤ 1000000 then .ok (.int (z.length : Nat)) st else .err
  | [w] => match seqOf st w with | some xs => .ok (.int (xs.length : Nat)) st | none => .err
  | _ => .err
def fInt (ws : List W) (st : Sto) : Res W := match ws with | [.int i] => .ok (.int i) st | [.bl b] => .ok (.int (if b then 1 else 0)) st | _ => .err
def bools : List W → Option (List Bool)
  | [] => some []
  | .bl b :: r => (bools r).map (b :: ·)
  | _ :: _ => none
def intsOf : List W → Option (List Int)
  | [] => some []
  | .int b :: r => (intsOf r).map (b :: ·)
  | _ :: _ => none
def fAll (ws : List W) (st : Sto) : Res W := match ws with | [.ref n] => (match (getL st n).bind bools with | some bs => .ok (.bl (bs.all id)) st | none => .err) | _ => .err
def fAny (ws : List W) (st : Sto) : Res W := match ws with | [.ref n] => (match (getL st n).bind bools with | some bs => .ok (.bl (bs.any id)) st | none => .err) | _ => .err
def fSumL (ws : List W) (st : Sto) : Res W := match ws with | [.ref n] => (match (getL st n).bind intsOf with | some bs => .ok (.int bs.sum) st | none => .err) | _ => .err
def fMin2 (ws : List W) (st : Sto) : Res W := match ws with | [.int i, .int j] => .ok (.int (if j < i then j else i)) st | _ => .err
def fMax2 (ws : List W) (st : Sto) : Res W := match ws with | [.int i, .int j] => .ok (.int (if j > i then j else i)) st | _ => .err
def fTuple (ws : List W) (st : Sto) : Res W := match ws with | [w] => (match seqOf st w with | some xs => .ok (.tup xs) st | none => .err) | _ => .err
def fList (ws : List W) (st : Sto) : Res W := match ws with | [w] => (match seqOf st w with | some xs => .ok (.ref st.c.length) (st.push (.lst xs)) | none => .err) | _ => .err
def fGcd (ws : List W) (st : Sto) : Res W := match ws with | [.int i, .int j] => .ok (.int ((Nat.gcd i.natAbs j.natAbs : Nat) : Int)) st | _ => .err
def insI (x : Int) : List Int → List Int
  | [] => [x]
  | y :: r => if x ≤ y then x :: y :: r else y :: insI x r
def sortI : List Int → List Int
  | [] => []
  | x :: r => insI x (sortI r)
def fSortI (ws : List W) (st : Sto) : Res W := match ws with | [.ref n] => (match (getL st n).bind intsOf with | some ns => .ok (.ref st.c.length) (st.push (.lst ((sortI ns).map .int))) | none => .err) | _ => .err

section
variable {X : Cx} {Γ : Gm} {Wx : WX}
theorem bools_rep {K : PySem.W.Frag} {μ : List Addr} {H : Hp} : ∀ {ws : List W} {xs : List V} {bs : List Bool}, bools ws = some bs → Reps K μ H ws xs → xs = bs.map V.bl
  | [], _, bs, h, .nil => by cases h; rfl
  | .bl b :: r, _, bs, h, .cons a t => by
    simp only [bools] at h
    cases e : bools r with
    | none => rw [e] at h; cases h
    | some cs => rw [e] at h; cases h; cases a; rw [bools_rep e t]; rfl
  | .non :: _, _, _, h, _ => by cases h
  | .int _ :: _, _, _, h, _ => by cases h
  | .str _ :: _, _, _, h, _ => by cases h
  | .tup _ :: _, _, _, h, _ => by cases h
  | .ref _ :: _, _, _, h, _ => by cases h
theorem ints_rep {K : PySem.W.Frag} {μ : List Addr} {H : Hp} : ∀ {ws : List W} {xs : List V} {bs : List Int}, intsOf ws = some bs → Reps K μ H ws xs → xs = bs.map V.int
  | [], _, bs, h, .nil => by cases h; rfl
  | .int b :: r, _, bs, h, .cons a t => by
    simp only [intsOf] at h
    cases e : intsOf r with
    | none => rw [e] at h; cases h
    | some cs => rw [e] at h; cases h; cases a; rw [ints_rep e t]; rfl
  | .non :: _, _, _, h, _ => by cases h
  | .bl _ :: _, _, _, h, _ => by cases h
  | .str _ :: _, _, _, h, _ => by cases h
  | .tup _ :: _, _, _, h, _ => by cases h
  | .ref _ :: _, _, _, h, _ => by cases h
theorem ok_len (hK : X.K = Γ.K) : CallOk Γ (fun xs H Q => ∃ x n, xs = [x] ∧ LenV X.K x H n ∧ Q (.int n) H) fLen := fun Wx μ σ H st ws xs Q hs hr h => by
  rw [hK]
  cases hr with
  | nil => exact h.elim
  | @cons w v ws vs r t =>
    cases t with
    | cons _ _ => cases w <;> exact h.elim
    | nil =>
      have other : ∀ ys, seqOf st w = some ys → Post Γ Wx (Rep Γ.K) μ σ H Q (.ok (.int (ys.length : Nat)) st) → ∃ x n, [v] = [x] ∧ LenV Γ.K x H n ∧ Q (.int n) H := fun ys e h => by
        obtain ⟨a, zs, rfl, h1, h2⟩ := seqOf_rep hs e r
        refine ⟨_, ys.length, rfl, ?_, h.here hs (.int _)⟩
        rcases h1 with h1 | h1
        · exact .inl ⟨zs, h1, h2.length⟩
        · exact .inr ⟨zs, h1, h2.length⟩
      cases w with
      | str z =>
        simp only [fLen] at h
        split at h
        · rename_i hz
          cases r
          exact ⟨_, z.length, rfl, ⟨le_line hz, rfl⟩, h.here hs (.int _)⟩
        · exact h.elim
      | tup ys => exact other ys rfl h
      | ref n =>
        simp only [fLen] at h
        cases e : seqOf st (.ref n) with
        | none => rw [e] at h; exact h.elim
        | some ys => rw [e] at h; exact other ys e h
      | _ => exact h.elim
theorem ok_fint : CallOk Γ (fun xs H Q => (∃ i, xs = [.int i] ∧ Q (.int i) H) ∨ ∃ k, xs = [.bl k] ∧ Q (.int (if k then 1 else 0)) H) fInt := fun Wx μ σ H st ws xs Q hs hr h => by
  unfold fInt at h
  split at h
  · cases hr with
    | cons r t => cases r; cases t; exact .inl ⟨_, rfl, h.here hs (.int _)⟩
  · cases hr with
    | cons r t => cases r; cases t; exact .inr ⟨_, rfl, h.here hs (.int _)⟩
  · exact h.elim
theorem ok_all (hK : X.K = Γ.K) : CallOk Γ (rAll X.K) fAll := fun Wx μ σ H st ws xs Q hs hr h => by
  rw [hK]
  unfold fAll at h
  split at h
  · rename_i n
    split at h
    · rename_i bs e
      cases hr with
      | cons r t =>
        cases t
        cases e1 : getL st n with
        | none => rw [e1] at e; cases e
        | some ws =>
          rw [e1] at e
          obtain ⟨a, zs, rfl, h1, h2⟩ := getL_rep hs e1 r
          have q := bools_rep e h2
          subst q
          exact ⟨a, bs, rfl, h1, h.here hs (.bl _)⟩
    · exact h.elim
  · exact h.elim
theorem ok_any (hK : X.K = Γ.K) : CallOk Γ (rAny X.K) fAny := fun Wx μ σ H st ws xs Q hs hr h => by
  rw [hK]
  unfold fAny at h
  split at h
  · rename_i n
    split at h
    · rename_i bs e
      cases hr with
      | cons r t =>
        cases t
        cases e1 : getL st n with
        | none => rw [e1] at e; cases e
        | some ws =>
          rw [e1] at e
          obtain ⟨a, zs, rfl, h1, h2⟩ := getL_rep hs e1 r
          have q := bools_rep e h2
          subst q
          exact ⟨a, bs, rfl, h1, h.here hs (.bl _)⟩
    · exact h.elim
  · exact h.elim
theorem ok_sumL (hK : X.K = Γ.K) : CallOk Γ (rSum X.K) fSumL := fun Wx μ σ H st ws xs Q hs hr h => by
  rw [hK]
  unfold fSumL at h
  split at h
  · rename_i n
    split at h
    · rename_i bs e
      cases hr with
      | cons r t =>
        cases t
        cases e1 : getL st n with
        | none => rw [e1] at e; cases e
        | some ws =>
          rw [e1] at e
          obtain ⟨a, zs, rfl, h1, h2⟩ := getL_rep hs e1 r
          have q := ints_rep e h2
          subst q
          exact ⟨a, bs, rfl, h1, h.here hs (.int _)⟩
    · exact h.elim
  · exact h.elim
theorem ok_min2 : CallOk Γ (fun xs H Q => ∃ i j, xs = [.int i, .int j] ∧ Q (.int (if j < i then j else i)) H) fMin2 := fun Wx μ σ H st ws xs Q hs hr h => by
  unfold fMin2 at h
  split at h
  · cases hr with
    | cons r t => cases r; cases t with
      | cons r2 t2 => cases r2; cases t2; exact ⟨_, _, rfl, h.here hs (.int _)⟩
  · exact h.elim
theorem ok_max2 : CallOk Γ (fun xs H Q => ∃ i j, xs = [.int i, .int j] ∧ Q (.int (if j > i then j else i)) H) fMax2 := fun Wx μ σ H st ws xs Q hs hr h => by
  unfold fMax2 at h
  split at h
  · cases hr with
    | cons r t => cases r; cases t with
      | cons r2 t2 => cases r2; cases t2; exact ⟨_, _, rfl, h.here hs (.int _)⟩
  · exact h.elim
theorem ok_gcd : CallOk Γ rGcd fGcd := fun Wx μ σ H st ws xs Q hs hr h => by
  unfold fGcd at h
  split at h
  · cases hr with
    | cons r t => cases r; cases t with
      | cons r2 t2 => cases r2; cases t2; exact ⟨_, _, rfl, h.here hs (.int _)⟩
  · exact h.elim
theorem ok_tuple (hK : X.K = Γ.K) : CallOk Γ (fun xs H Q => ∃ p ys, xs = [.ref p] ∧ ((SqL X.K H p ys ∧ ∀ l, H l = none → Q (.ref l) (upd H l (.tup ys))) ∨ (SqT X.K H p ys ∧ Q (.ref p) H))) fTuple := fun Wx μ σ H st ws xs Q hs hr h => by
  rw [hK]
  unfold fTuple at h
  split at h
  · rename_i w
    split at h
    · rename_i ys e
      cases hr with
      | cons r t =>
        cases t
        obtain ⟨a, zs, rfl, h1, h2⟩ := seqOf_rep hs e r
        refine ⟨a, zs, rfl, ?_⟩
        rcases h1 with h1 | h1
        · refine .inl ⟨h1, fun p hp => ?_⟩
          have E : Ext Γ.K μ μ H (upd H p (.tup zs)) := ext_upd (.inl hp)
          exact h _ _ _ E (hs.other hp) (.tup (.inl (.inl upd_same)) (h2.mono E))
        · exact .inr ⟨h1, h.here hs (.tup h1 h2)⟩
    · exact h.elim
  · exact h.elim
theorem ok_list (hK : X.K = Γ.K) : CallOk Γ (fun xs H Q => ∃ p ys, xs = [.ref p] ∧ (SqL X.K H p ys ∨ SqT X.K H p ys) ∧ ∀ l, H l = none → Q (.ref l) (upd H l (.lst ys))) fList := fun Wx μ σ H st ws xs Q hs hr h => by
  rw [hK]
  unfold fList at h
  split at h
  · rename_i w
    split at h
    · rename_i ys e
      cases hr with
      | cons r t =>
        cases t
        obtain ⟨a, zs, rfl, h1, h2⟩ := seqOf_rep hs e r
        refine ⟨a, zs, rfl, h1, fun p hp => ?_⟩
        have E : Ext Γ.K μ (μ ++ [p]) H (upd H p (.lst zs)) := ext_new hp
        exact h _ _ _ E (hs.new hp ⟨_, upd_same, h2.mono E⟩ (h2.low (Nat.le_of_eq hs.len))) (.ref (by rw [← hs.len]; simp))
    · exact h.elim
  · exact h.elim
theorem insI_perm (x : Int) : ∀ l, (insI x l).Perm (x :: l)
  | [] => .refl _
  | y :: r => by
    unfold insI
    split
    · exact .refl _
    · exact ((insI_perm x r).cons y).trans (.swap x y r)
theorem sortI_perm : ∀ l, (sortI l).Perm l
  | [] => .refl _
  | x :: r => (insI_perm x (sortI r)).trans ((sortI_perm r).cons x)
theorem insI_sorted (x : Int) : ∀ l : List Int, l.Pairwise (· ≤ ·) → (insI x l).Pairwise (· ≤ ·)
  | [], _ => by simp [insI]
  | y :: r, h => by
    unfold insI
    rw [List.pairwise_cons] at h
    split
    · rename_i hx
      rw [List.pairwise_cons]
      refine ⟨fun z hz => ?_, by rw [List.pairwise_cons]; exact h⟩
      rcases List.mem_cons.mp hz with e | e
      · subst e; exact hx
      · have := h.1 z e; omega
    · rename_i hx
      rw [List.pairwise_cons]
      refine ⟨fun z hz => ?_, insI_sorted x r h.2⟩
      rcases List.mem_cons.mp ((insI_perm x r).mem_iff.mp hz) with e | e
      · subst e; omega
      · exact h.1 z e
theorem sortI_sorted : ∀ l : List Int, (sortI l).Pairwise (· ≤ ·)
  | [] => .nil
  | x :: r => insI_sorted x _ (sortI_sorted r)
theorem sorted_unique : ∀ {l l' : List Int}, l.Perm l' → l.Pairwise (· ≤ ·) → l'.Pairwise (· ≤ ·) → l = l'
  | [], l', p, _, _ => (List.Perm.eq_nil p.symm).symm
  | x :: r, [], p, _, _ => by have := p.length_eq; simp at this
  | x :: r, y :: s, p, h, h' => by
    rw [List.pairwise_cons] at h h'
    have e : x = y := by
      have a1 : x ∈ y :: s := p.mem_iff.mp List.mem_cons_self
      have a2 : y ∈ x :: r := p.mem_iff.mpr List.mem_cons_self
      rcases List.mem_cons.mp a1 with e | e
      · exact e
      · rcases List.mem_cons.mp a2 with e2 | e2
        · exact e2.symm
        · have := h'.1 x e
          have := h.1 y e2
          omega
    subst e
    rw [sorted_unique ((List.perm_cons x).mp p) h.2 h'.2]
theorem ok_sortI (hK : X.K = Γ.K) : CallOk Γ (rSortedI X.K) fSortI := fun Wx μ σ H st ws xs Q hs hr h => by
  rw [hK]
  unfold fSortI at h
  split at h
  · rename_i n
    split at h
    · rename_i ns e
      cases hr with
      | cons r t =>
        cases t
        cases e1 : getL st n with
        | none => rw [e1] at e; cases e
        | some ws =>
          rw [e1] at e
          obtain ⟨a, zs, rfl, h1, h2⟩ := getL_rep hs e1 r
          have q := ints_rep e h2
          subst q
          refine ⟨a, ns, rfl, h1, fun ns' p pe so hp => ?_⟩
          have eq := sorted_unique (pe.trans (sortI_perm ns).symm) so (sortI_sorted ns)
          subst eq
          have E : Ext Γ.K μ (μ ++ [p]) H (upd H p (.lst ((sortI ns).map V.int))) := ext_new hp
          have rr : Reps Γ.K μ H ((sortI ns).map W.int) ((sortI ns).map V.int) := Reps.of_ints _
          exact h _ _ _ E (hs.new hp ⟨_, upd_same, rr.mono E⟩ (rr.low (Nat.le_of_eq hs.len))) (.ref (by rw [← hs.len]; simp))
    · exact h.elim
  · exact h.elim
/-- a built-in function by its name -/
theorem qe_blt {id : String} {r : List V → Hp → VK → Prop} {F : List W → Sto → Res W} {x : Str} {p pos : Pos} {e : Expr} {es : List Expr} {eas : Evs} (hc : CallR X (.builtin id) r) (hF : CallOk Γ r F) (hg : Gl X x) (hm : X.mg x = none) (hv : bootBuiltins x = some (.builtin id)) (ha : PA X (e :: es) (tA Γ Wx eas))
    (hn : x ≠ "__name__" := by decide) (hd : (x == ("__debug__" : Str)) = false := by decide) (he : starEach (e :: es) X.env = (false, eval e X.env) :: starEach es X.env := by rfl) (hpl : (backTo pos (starEach es X.env)).any (·.1) = false := by rfl) : PE X (.Call (.Name x p) (e :: es) [] pos) (tE Γ Wx (eB F eas)) :=
  PE_imp (pe_callB hc hg hm hv ha hn hd he hpl) fun σ H Q h => tCB_run hF σ H Q h
theorem qe_typ {T : String} {r : List V → Hp → VK → Prop} {F : List W → Sto → Res W} {x : Str} {p pos : Pos} {e : Expr} {es : List Expr} {eas : Evs} (hc : CallR X (.type T) r) (hF : CallOk Γ r F) (hg : Gl X x) (hm : X.mg x = none) (hv : bootBuiltins x = some (.type T)) (ha : PA X (e :: es) (tA Γ Wx eas))
    (hn : x ≠ "__name__" := by decide) (hd : (x == ("__debug__" : Str)) = false := by decide) (he : starEach (e :: es) X.env = (false, eval e X.env) :: starEach es X.env := by rfl) (hpl : (backTo pos (starEach es X.env)).any (·.1) = false := by rfl) : PE X (.Call (.Name x p) (e :: es) [] pos) (tE Γ Wx (eB F eas)) :=
  PE_imp (pe_callTy hc hg hm hv ha hn hd he hpl) fun σ H Q h => tCB_run hF σ H Q h
theorem qe_bfun {id : String} {r : List V → Hp → VK → Prop} {F : List W → Sto → Res W} {x : Str} {p pos : Pos} {e : Expr} {es : List Expr} {eas : Evs} (hc : CallR X (.builtin id) r) (hF : CallOk Γ r F) (hg : Gl X x) (hm : X.mg x = some (.builtin id)) (ha : PA X (e :: es) (tA Γ Wx eas))
    (hd : (x == ("__debug__" : Str)) = false := by decide) (he : starEach (e :: es) X.env = (false, eval e X.env) :: starEach es X.env := by rfl) (hpl : (backTo pos (starEach es X.env)).any (·.1) = false := by rfl) : PE X (.Call (.Name x p) (e :: es) [] pos) (tE Γ Wx (eB F eas)) :=
  PE_imp (pe_callBfun hc hg hm ha hd he hpl) fun σ H Q h => tCB_run hF σ H Q h

inductive Tn where
  | non | bl | int | str | tup | lst | cls (c : Nat)
def Tn.val (Γ : Gm) : Tn → Value
  | .non => .type "NoneType"
  | .bl => .type "bool"
  | .int => .type "int"
  | .str => .type "str"
  | .tup => .type "tuple"
  | .lst => .type "list"
  | .cls c => .ref (Γ.cl c)
def tnOf (st : Sto) : W → Option Tn
  | .non => some .non
  | .bl _ => some .bl
  | .int _ => some .int
  | .str _ => some .str
  | .tup _ => some .tup
  | .ref n => match st.c[n]? with
    | some (.lst _) => some .lst
    | some (.scr _) => some .lst
    | some (.ins c _) => some (.cls c)
    | none => none
end
end RB

set_option Elab.async false
set_option linter.all false
set_option maxRecDepth 100000
set_option maxHeartbeats 4000000
namespace RB
open PySem PySem.Spec PyProof.Rows L2

/-- what isinstance asks of a class of one's own -/
structure ClsI (K : PySem.W.Frag) (C : Addr) : Prop where
  cl : Cls K C
  ha : PySem.W.findIn K (.ref C) "__class__" = some (some (.builtin "object.__class__"))
  hn : PySem.W.specialIn K (.builtin "object.__class__") "__get__" = some (some (.builtin "getset_descriptor.__get__"))
  ht : PySem.W.takesIn K (.builtin "object.__class__") = some true
  hm : PySem.W.mroIn K C (.type "object") = some true
def Ans (Γ : Gm) (Ts : List Tn) (ans : Tn → Option Bool) : Prop := ∀ t b, ans t = some b → PySem.W.kitAny Γ.K (t.val Γ) (Ts.map (Tn.val Γ)) = some b
def eIsi (ans : Tn → Option Bool) (a : Ev) : Ev := fun l st => (a l st).bind fun w st1 => match (tnOf st1 w).bind ans with | some b => .ok (.bl b) st1 | none => .err
section
variable {X : Cx} {Γ : Gm} {Wx : WX} {e a b o : Expr} {es : List Expr} {ea eb eo : Ev} {eas : Evs}
theorem tnOf_rep {μ : List Addr} {H : Hp} {st : Sto} {w : W} {v : V} {t : Tn} (hc : ∀ c, t = .cls c → ClsI Γ.K (Γ.cl c)) (hs : Sim Γ μ st H) (h : tnOf st w = some t) (r : Rep Γ.K μ H w v) : TyX Γ.K H v (t.val Γ) := by
  cases r with
  | non => cases h; exact .base .non
  | bl b => cases h; exact .base (.bl b)
  | int i => cases h; exact .base (.int i)
  | str x => cases h; exact .base (.str x)
  | tup q _ =>
    cases h
    rcases q with (q | ⟨ob, q⟩) | ⟨ob, its, n, q1, q2, _⟩
    · exact .base (.tup q)
    · exact .fTuple q
    · exact .kTuple q1 q2
  | ref hm =>
    rename_i n a
    simp only [tnOf] at h
    split at h
    · rename_i ws ec
      cases h
      obtain ⟨xs, q1, q2⟩ := hs.cell n _ _ ec hm
      exact .base (.lst q1)
    · rename_i ws ec
      cases h
      obtain ⟨xs, q1 | ⟨ob, q1⟩, q2⟩ := hs.cell n _ _ ec hm
      · obtain ⟨ob, its, k, z1, z2, _⟩ := q1
        exact .kList z1 z2
      · exact .base (.frz q1)
    · rename_i c fs ec
      cases h
      obtain ⟨dx, gs, q1, q2⟩ := hs.cell n _ _ ec hm
      have I := hc c rfl
      exact .base (.ins q1 I.cl I.ha I.hn I.ht I.hm)
    · cases h
/-- every class whose instances are made here is fit for isinstance -/
def AllI (Γ : Gm) (ans : Tn → Option Bool) : Prop := ∀ c b, ans (.cls c) = some b → ClsI Γ.K (Γ.cl c)
theorem qe_isi1 {T : Tn} {ans : Tn → Option Bool} {te : Expr} {v : V} {p pos : Pos} (hA : AllI Γ ans) (hK : X.K = Γ.K) (hg : Gl X "isinstance") (hm : X.mg "isinstance" = none) (ha : PE X a (tE Γ Wx ea)) (hT : PE X te (tC v)) (hv : ClsV v (T.val Γ)) (hans : Ans Γ [T] ans)
    (he : starEach (a :: [te]) X.env = (false, eval a X.env) :: starEach [te] X.env := by rfl) (he2 : starEach (te :: []) X.env = (false, eval te X.env) :: starEach [] X.env := by rfl) (hpl : (backTo pos (starEach [te] X.env)).any (·.1) = false := by rfl) : PE X (.Call (.Name "isinstance" p) [a, te] [] pos) (tE Γ Wx (eIsi ans ea)) :=
  PE_imp (pe_callB call_isi hg hm (by decide +kernel) (pa_cons ha (pa_cons hT pa_nil he2) he) (by decide) (by decide) he hpl) fun σ H Q ⟨μ, l, st, hs, hl, h⟩ => tG_bind hs hl h _ fun w st1 μ1 H1 x e1 s1 r1 h1 => by
    split at h1
    · rename_i b eb
      cases et : tnOf st1 w with
      | none => rw [et] at eb; cases eb
      | some t =>
        rw [et] at eb
        have k := hans t b eb
        simp only [List.map_cons, List.map_nil, PySem.W.kitAny] at k
        have k2 : PySem.W.kitOne Γ.K (t.val Γ) (T.val Γ) = some b := by
          cases q : PySem.W.kitOne Γ.K (t.val Γ) (T.val Γ) with
          | none => rw [q] at k; cases k
          | some c => rw [q] at k; cases c <;> exact k
        rw [hK]
        exact ⟨x, v, _, _, b, rfl, hv, tnOf_rep (fun c hc => hA c b (hc ▸ eb)) s1 et r1, k2, h1.here s1 (.bl b)⟩
    · exact h1.elim
theorem qe_isi2 {T1 T2 : Tn} {ans : Tn → Option Bool} {t1 t2 : Expr} {v1 v2 : V} {p pos tpos : Pos} {x1} (hA : AllI Γ ans) (hK : X.K = Γ.K) (hg : Gl X "isinstance") (hm : X.mg "isinstance" = none) (ha : PE X a (tE Γ Wx ea)) (hT1 : PE X t1 (tC v1)) (hv1 : ClsV v1 (T1.val Γ)) (hT2 : PE X t2 (tC v2)) (hv2 : ClsV v2 (T2.val Γ)) (hans : Ans Γ [T1, T2] ans)
    (he : starEach (a :: [.Tuple [t1, t2] x1 tpos]) X.env = (false, eval a X.env) :: starEach [.Tuple [t1, t2] x1 tpos] X.env := by rfl) (he2 : starEach (.Tuple [t1, t2] x1 tpos :: []) X.env = (false, eval (.Tuple [t1, t2] x1 tpos) X.env) :: starEach [] X.env := by rfl)
    (hs1 : starEach (t1 :: [t2]) X.env = (false, eval t1 X.env) :: starEach [t2] X.env := by rfl) (hs2 : starEach (t2 :: []) X.env = (false, eval t2 X.env) :: starEach [] X.env := by rfl)
    (hpl : (backTo pos (starEach [.Tuple [t1, t2] x1 tpos] X.env)).any (·.1) = false := by rfl) : PE X (.Call (.Name "isinstance" p) [a, .Tuple [t1, t2] x1 tpos] [] pos) (tE Γ Wx (eIsi ans ea)) :=
  PE_imp (pe_callB call_isiT hg hm (by decide +kernel) (pa_cons ha (pa_cons (pe_tup (pa_cons hT1 (pa_cons hT2 pa_nil hs2) hs1)) pa_nil he2) he) (by decide) (by decide) he hpl) fun σ H Q ⟨μ, l, st, hs, hl, h⟩ => tG_bind hs hl h _ fun w st1 μ1 H1 x e1 s1 r1 h1 => by
    refine ⟨le1000 (by simp), fun q hq => ?_⟩
    split at h1
    · rename_i b eb
      cases et : tnOf st1 w with
      | none => rw [et] at eb; cases eb
      | some t =>
        rw [et] at eb
        have E : Ext Γ.K μ1 μ1 H1 (upd H1 q (.tup [v1, v2])) := ext_upd (.inl hq)
        have s2 := s1.other (o := .tup [v1, v2]) hq
        rw [hK]
        exact ⟨x, q, [v1, v2], _, _, b, rfl, upd_same, .cons hv1 (.cons hv2 .nil), tnOf_rep (fun c hc => hA c b (hc ▸ eb)) s2 et (r1.mono E), hans t b eb, h1 _ _ _ E s2 (.bl b)⟩
    · exact h1.elim

abbrev Po := Lo → Sto → Res (Option Int)
def poNone : Po := fun _ st => .ok none st
def poSome (a : Ev) : Po := fun l st => (a l st).bind fun w st1 => match w with | .int i => .ok (some i) st1 | _ => .err
def cutW {α : Type} (xs : List α) (lo hi : Option Int) : List α := (xs.drop (HT.sIx xs.length 0 lo)).take (HT.sIx xs.length xs.length hi - HT.sIx xs.length 0 lo)
def wSl (x : W) (lo hi : Option Int) (st : Sto) : Res W := match x with
  | .tup ws => .ok (.tup (cutW ws lo hi)) st
  | .ref n => match getL st n with | some ws => .ok (.ref st.c.length) (st.push (.lst (cutW ws lo hi))) | none => .err
  | _ => .err
def eSl (a : Ev) (lo hi : Po) : Ev := fun l st => (a l st).bind fun x st1 => (lo l st1).bind fun i st2 => (hi l st2).bind fun j st3 => wSl x i j st3
abbrev tP (Γ : Gm) (Wx : WX) (f : Po) : TO := fun σ H Q => tG Γ Wx (fun _ _ a b => a = b) f σ H Q
theorem PO_imp {e : Option Expr} {t t' : TO} (h : PO X e t) (k : ∀ σ H Q, t' σ H Q → t σ H Q) : PO X e t' := ⟨fun pins s σ H Q I q => h.run pins s σ H Q I (k _ _ _ q)⟩
theorem qo_none : PO X none (tP Γ Wx poNone) := PO_imp po_none fun σ H Q ⟨μ, l, st, hs, hl, h⟩ => h.here hs rfl
theorem qo_some (ha : PE X a (tE Γ Wx ea)) : PO X (some a) (tP Γ Wx (poSome ea)) := PO_imp (po_some ha) fun σ H Q ⟨μ, l, st, hs, hl, h⟩ => tG_bind hs hl h _ fun w st1 μ1 H1 v e1 s1 r1 h1 => by
  cases w with
  | int i => cases r1; exact ⟨i, rfl, h1.here s1 rfl⟩
  | _ => exact h1.elim
theorem cut_rep {μ : List Addr} {H : Hp} {K : PySem.W.Frag} {ws : List W} {xs : List V} (r : Reps K μ H ws xs) (lo hi : Option Int) : Reps K μ H (cutW ws lo hi) (cutV xs lo hi) := by
  unfold cutW cutV
  rw [r.length]
  exact (r.drop _).take _
theorem cutW_whole {ws : List W} {lo hi : Option Int} (h1 : HT.sIx ws.length 0 lo = 0) (h2 : HT.sIx ws.length ws.length hi = ws.length) : cutW ws lo hi = ws := by
  unfold cutW
  rw [h1, h2]
  simp
theorem qe_sl {lo hi : Option Expr} {pl ph : Po} {pos p2 : Pos} (hK : X.K = Γ.K) (ha : PE X a (tE Γ Wx ea)) (hl : PO X lo (tP Γ Wx pl)) (hh : PO X hi (tP Γ Wx ph)) : PE X (.Subscript a (.Slice lo hi none p2) pos) (tE Γ Wx (eSl ea pl ph)) :=
  PE_imp (pe_slice (SlR.or sl_tupA sl_list) ha hl hh) fun σ H Q ⟨μ, l, st, hs, hl, h⟩ => tG_bind hs hl h _ fun w st1 μ1 H1 v e1 s1 r1 h1 => tG_bind s1 (hl.mono e1) h1 _ fun i st2 μ2 H2 i' e2 s2 r2 h2 => tG_bind s2 (hl.mono (e1.trans e2)) h2 _ fun j st3 μ3 H3 j' e3 s3 r3 h3 => by
    subst r2 r3
    have r1 := r1.mono (e2.trans e3)
    rw [hK]
    cases w with
    | tup ws =>
      cases r1 with
      | tup q1 q2 =>
        rename_i aa xs
        refine .inl ⟨_, _, rfl, q1, fun ⟨z1, z2⟩ => ?_, fun _ p hp => ?_⟩
        · rw [← q2.length] at z1 z2
          have h3 : Post Γ Wx (Rep Γ.K) μ3 σ H3 Q (.ok (.tup (cutW ws i j)) st3) := h3
          rw [cutW_whole z1 z2] at h3
          exact h3.here s3 (.tup q1 q2)
        · have E : Ext Γ.K μ3 μ3 H3 (upd H3 p (.tup (cutV xs i j))) := ext_upd (.inl hp)
          exact h3 _ _ _ E (s3.other hp) (.tup (.inl (.inl upd_same)) ((cut_rep q2 i j).mono E))
    | ref n =>
      simp only [wSl] at h3
      cases e4 : getL st3 n with
      | none => rw [e4] at h3; exact h3.elim
      | some ws =>
        rw [e4] at h3
        obtain ⟨aa, xs, rfl, q1, q2⟩ := getL_rep s3 e4 r1
        refine .inr ⟨aa, xs, rfl, q1, fun p hp => ?_⟩
        have E : Ext Γ.K μ3 (μ3 ++ [p]) H3 (upd H3 p (.lst (cutV xs i j))) := ext_new hp
        have rr := cut_rep q2 i j
        exact h3 _ _ _ E (s3.new hp ⟨_, upd_same, rr.mono E⟩ (rr.low (Nat.le_of_eq s3.len))) (.ref (by rw [← s3.len]; simp))
    | _ => exact h3.elim

def MtOk (Γ : Gm) (r : V → List V → Hp → VK → Prop) (F : W → List W → Sto → Res W) : Prop := ∀ (Wx : WX) μ (σ : L2.St) H st w x ws xs (Q : VK), Sim Γ μ st H → Rep Γ.K μ H w x → Reps Γ.K μ H ws xs → Post Γ Wx (Rep Γ.K) μ σ H Q (F w ws st) → (∃ n us, w = .ref n ∧ st.c[n]? = some (.lst us)) ∧ r x xs H Q
def isL (st : Sto) (w : W) : Bool := match w with | .ref n => (match st.c[n]? with | some (.lst _) => true | _ => false) | _ => false
theorem isL_at {st : Sto} {w : W} (h : isL st w = true) : ∃ n us, w = .ref n ∧ st.c[n]? = some (.lst us) := by
  unfold isL at h
  split at h
  · rename_i n
    split at h
    · rename_i us e
      exact ⟨n, us, rfl, e⟩
    · cases h
  · cases h
def eMt (F : W → List W → Sto → Res W) (o : Ev) (a : Evs) : Ev := fun l st => (o l st).bind fun x st1 => if isL st1 x = true then ((a l st1).bind fun ws st2 => F x ws st2) else .err
def fAppend (w : W) (ws : List W) (st : Sto) : Res W := match w, ws with
  | .ref n, [y] => match st.c[n]? with | some (.lst us) => if us.length < 1000000 then .ok .non (st.put n (.lst (us ++ [y])) (W.low n y)) else .err | _ => .err
  | _, _ => .err
def fExtend (w : W) (ws : List W) (st : Sto) : Res W := match w, ws with
  | .ref n, [.ref m] => match st.c[n]?, st.c[m]? with | some (.lst us), some (.lst vs) => if us.length + vs.length ≤ 1000000 then .ok .non (st.put n (.lst (us ++ vs)) (W.lows n vs)) else .err | _, _ => .err
  | _, _ => .err
def fPopAt (w : W) (ws : List W) (st : Sto) : Res W := match w, ws with
  | .ref n, [.int i] => match st.c[n]? with | some (.lst us) => if -(2 ^ 63) ≤ i ∧ i < 2 ^ 63 then (match seqIndex? i us.length with | some k => (match us[k]? with | some y => .ok y (st.put n (.lst (us.eraseIdx k)) true) | none => .err) | none => .err) else .err | _ => .err
  | _, _ => .err
theorem lows_append {n : Nat} : ∀ {a b : List W}, W.lows n a = true → W.lows n b = true → W.lows n (a ++ b) = true
  | [], _, _, h => h
  | x :: r, b, h, h2 => by
    simp [W.lows] at h
    simp [W.lows, h.1]
    exact lows_append h.2 h2
theorem lows_erase {n : Nat} : ∀ {a : List W} (k : Nat), W.lows n a = true → W.lows n (a.eraseIdx k) = true
  | [], _, _ => rfl
  | x :: r, 0, h => by simp [W.lows] at h; simpa using h.2
  | x :: r, k + 1, h => by
    simp [W.lows] at h
    simp [W.lows, h.1]
    exact lows_erase k h.2
theorem lows_set {n : Nat} {v : W} (hv : W.low n v = true) : ∀ {a : List W} (k : Nat), W.lows n a = true → W.lows n (a.set k v) = true
  | [], _, _ => rfl
  | x :: r, 0, h => by simp [W.lows] at h; simp [W.lows, hv, h.2]
  | x :: r, k + 1, h => by
    simp [W.lows] at h
    simp [W.lows, h.1]
    exact lows_set hv k h.2
theorem ext_wr {K : PySem.W.Frag} {μ : List Addr} {H : Hp} {p : Addr} {xs : List V} {o : HO} (hp : H p = some (.lst xs)) : Ext K μ μ H (upd H p o) := ext_upd (.inr ⟨xs, hp⟩)
theorem mok_append : MtOk Γ rAppend fAppend := fun Wx μ σ H st w x ws xs Q hs hr hrs h => by
  unfold fAppend at h
  split at h
  · rename_i n y
    split at h
    · rename_i us ec
      split at h
      · rename_i hlen
        refine ⟨⟨n, us, rfl, ec⟩, ?_⟩
        cases hr with
        | ref hm =>
          cases hrs with
          | @cons _ yv _ _ ry t =>
            cases t
            obtain ⟨vs, q1, q2⟩ := hs.cell n _ _ ec hm
            refine ⟨_, vs, _, rfl, rfl, q1, by rw [← q2.length]; exact Nat.lt_of_lt_of_le hlen (le_line (Nat.le_refl _)), ?_⟩
            have E := ext_wr (K := Γ.K) (μ := μ) (o := .lst (vs ++ [yv])) q1
            have rr := q2.snoc ry
            refine h _ _ _ E (hs.write ec hm q1 rfl rfl ⟨_, upd_same, rr.mono E⟩ fun b q => ?_) .non
            exact lows_append q (by simp [W.lows]; exact b)
      · exact h.elim
    · exact h.elim
  · exact h.elim
theorem mok_extend : MtOk Γ rExtend fExtend := fun Wx μ σ H st w x ws xs Q hs hr hrs h => by
  unfold fExtend at h
  split at h
  · rename_i n m
    split at h
    · rename_i us vs ec ed
      split at h
      · rename_i hlen
        refine ⟨⟨n, us, rfl, ec⟩, ?_⟩
        cases hr with
        | ref hm =>
          cases hrs with
          | cons ry t =>
            cases t
            cases ry with
            | ref hm2 =>
              obtain ⟨as, q1, q2⟩ := hs.cell n _ _ ec hm
              obtain ⟨bs, p1, p2⟩ := hs.cell m _ _ ed hm2
              refine ⟨_, _, as, bs, rfl, rfl, q1, p1, by rw [← q2.length, ← p2.length]; exact le_line hlen, ?_⟩
              have E := ext_wr (K := Γ.K) (μ := μ) (o := .lst (as ++ bs)) q1
              have rr := q2.append p2
              exact h _ _ _ E (hs.write ec hm q1 rfl rfl ⟨_, upd_same, rr.mono E⟩ fun b q => lows_append q b) .non
      · exact h.elim
    · exact h.elim
  · exact h.elim
theorem mok_popAt : MtOk Γ rPopAt fPopAt := fun Wx μ σ H st w x ws xs Q hs hr hrs h => by
  unfold fPopAt at h
  split at h
  · rename_i n i
    split at h
    · rename_i us ec
      split at h
      · rename_i hi
        split at h
        · rename_i k ek
          split at h
          · rename_i y ey
            refine ⟨⟨n, us, rfl, ec⟩, ?_⟩
            cases hr with
            | ref hm =>
              cases hrs with
              | cons ry t =>
                cases t
                cases ry
                obtain ⟨vs, q1, q2⟩ := hs.cell n _ _ ec hm
                obtain ⟨v, z1, z2⟩ := q2.get ey
                refine ⟨_, vs, i, k, v, rfl, rfl, q1, hi.1, hi.2, by rw [← q2.length]; exact ek, z1, ?_⟩
                have E := ext_wr (K := Γ.K) (μ := μ) (o := .lst (vs.eraseIdx k)) q1
                have rr := q2.eraseIdx k
                exact h _ _ _ E (hs.write ec hm q1 rfl rfl ⟨_, upd_same, rr.mono E⟩ fun b q => lows_erase k q) (z2.mono E)
          · exact h.elim
        · exact h.elim
      · exact h.elim
    · exact h.elim
  · exact h.elim
theorem qe_mt {id : String} {name : Str} {r : V → List V → Hp → VK → Prop} {F : W → List W → Sto → Res W} {apos cpos : Pos} (hK : X.K = Γ.K) (slot : Slot "list" name id) (hty : typeOf (.builtin id) = pure (.type "method_descriptor")) (hm : MtR X id r) (hF : MtOk Γ r F) (ho : PE X o (tE Γ Wx eo)) (ha : PA X (e :: es) (tA Γ Wx eas))
    (hbase : attributeBase o name X.env (eval o X.env) = eval o X.env := by rfl)
    (hfew : ((backTo cpos (starEach (e :: es) X.env)).all (fun x => !x.1) && (backToKw cpos (keywordEach [] X.env)).all (fun x => x.1.isSome) && decide ((e :: es).length + ([] : List Keyword).length + (if ([] : List Keyword).isEmpty then 0 else 1) < 30)) = true := by rfl)
    (hline : (apos.endLine == cpos.line) = true := by rfl) (hs : starEach (e :: es) X.env = (false, eval e X.env) :: starEach es X.env := by rfl) (hplain : (backTo cpos (starEach es X.env)).any (·.1) = false := by rfl) : PE X (.Call (.Attribute o name apos) (e :: es) [] cpos) (tE Γ Wx (eMt F eo eas)) :=
  PE_imp (pe_bm PySem.F.plainAttrs_list slot hty hm ho ha hbase hfew hline hs hplain) fun σ H Q ⟨μ, l, st, hs, hl, h⟩ => tG_bind hs hl h _ fun w st1 μ1 H1 v e1 s1 r1 h1 => by
    split at h1
    · rename_i hl1
      obtain ⟨n, us, rfl, ec⟩ := isL_at hl1
      refine ⟨?_, tG_bind s1 (hl.mono e1) h1 _ fun ws st2 μ2 H2 xs e2 s2 r2 h2 => (hF Wx μ2 σ H2 st2 (.ref n) v ws xs Q s2 (r1.mono e2) r2 h2).2⟩
      cases r1 with
      | ref hmm =>
        obtain ⟨vs, q1, q2⟩ := s1.cell n _ _ ec hmm
        exact .inl ⟨rfl, vs, by rw [hK]; exact .inl (.inl q1)⟩
    · exact h1.elim

def sIxW (o i e : Ev) : Sx := fun l st => xs (e l st) l fun v st1 => xs (o l st1) l fun x st2 => xs (i l st2) l fun y st3 => match x, y with
  | .ref n, .int k => match st3.c[n]? with
    | some (.lst us) => match ixN us.length k with | some j => .nx l (st3.put n (.lst (us.set j v)) (W.low n v)) | none => .err
    | _ => .err
  | _, _ => .err
theorem qs_ixw {i : Expr} {ei : Ev} {pos pos' : Pos} (he : PE X e (tE Γ Wx ea)) (ho : PE X o (tE Γ Wx eo)) (hi : PE X i (tE Γ Wx ei))
    (hsub : ∀ v, assign (.Subscript o i pos') X.env v = (do let ov ← holding [v] (eval o X.env); let iv ← holding [v, ov] (eval i X.env); standAt pos'; holding [v, ov, iv] (setItem ov iv v); release [v, ov, iv] []) := by intro _; rfl)
    (hs : swapsWithSole [.Subscript o i pos'] e pos.line X.env = pure false := by rfl) (hw : swappedStores [.Subscript o i pos'] e X.env = pure none := by rfl) (h1 : (assignEach [.Subscript o i pos'] X.env).map (·.2) = [assign (.Subscript o i pos') X.env] := by rfl) :
    PS X (.Assign [.Subscript o i pos'] e pos) (tS Γ Wx (sIxW eo ei ea)) :=
  PS_imp (ps_asg he (pg_sub ho hi set_list hsub) hs hw h1) fun D σ H ⟨μ, l, st, hs, hl, h⟩ => tG_bindS hs hl h _ fun v st1 μ1 H1 vv e1 s1 r1 h1 => tG_bindS s1 (hl.mono e1) h1 _ fun x st2 μ2 H2 xv e2 s2 r2 h2 => tG_bindS s2 (hl.mono (e1.trans e2)) h2 _ fun y st3 μ3 H3 yv e3 s3 r3 h3 => by
    split at h3
    · rename_i n k
      split at h3
      · rename_i us ec
        split at h3
        · rename_i j ej
          cases r3
          cases r2 with
          | ref hm =>
            have hm := e3.pre _ _ hm
            obtain ⟨as, q1, q2⟩ := s3.cell n _ _ ec hm
            refine ⟨_, as, k, j, rfl, rfl, q1, by rw [← q2.length]; exact ej, ?_⟩
            have E := ext_wr (K := Γ.K) (μ := μ3) (o := .lst (as.set j vv)) q1
            have rr := q2.set (r1.mono (e2.trans e3)) j
            exact h3 _ _ _ E (s3.write ec hm q1 rfl rfl ⟨_, upd_same, rr.mono E⟩ fun b q => lows_set b j q) (hl.mono (e1.trans (e2.trans (e3.trans E))))
        · exact h3.elim
      · exact h3.elim
    · exact h3.elim
end
end RB

set_option Elab.async false
set_option linter.all false
set_option maxRecDepth 100000
set_option maxHeartbeats 4000000
namespace RB
open PySem PySem.Spec PyProof.Rows L2

abbrev Sv := Lo → Sto → Res Src
def vSeq (a : Ev) : Sv := fun l st => (a l st).bind fun w st1 => match w with
  | .tup ws => .ok (.fix ws) st1
  | .ref n => match getL st1 n with | some _ => .ok (.live n) st1 | none => .err
  | _ => .err
def upFrom (lo : Int) : Nat → List W
  | 0 => []
  | n + 1 => .int lo :: upFrom (lo + 1) n
def vRng1 (a : Evs) : Sv := fun l st => (a l st).bind fun ws st1 => match ws with | [.int j] => if -1000000 ≤ j ∧ j ≤ 1000000 then .ok (.fix (upFrom 0 j.toNat)) st1 else .err | _ => .err
def vRng2 (a : Evs) : Sv := fun l st => (a l st).bind fun ws st1 => match ws with | [.int i, .int j] => if (-1000000 ≤ i ∧ i ≤ 1000000) ∧ -1000000 ≤ j ∧ j ≤ 1000000 then .ok (.fix (upFrom i (j - i).toNat)) st1 else .err | _ => .err
theorem upFrom_get : ∀ (lo : Int) (n i : Nat), (upFrom lo n)[i]? = if i < n then some (.int (lo + i)) else none
  | lo, 0, i => by simp [upFrom]
  | lo, n + 1, 0 => by simp [upFrom]
  | lo, n + 1, i + 1 => by
    simp only [upFrom, List.getElem?_cons_succ]
    rw [upFrom_get (lo + 1) n i]
    by_cases h : i < n
    · rw [if_pos h, if_pos (by omega)]
      congr 2
      omega
    · rw [if_neg h, if_neg (by omega)]
section
variable {X : Cx} {Γ : Gm} {Wx : WX} {e a b o tg iter elt : Expr} {es : List Expr} {ea eb eo : Ev} {eas : Evs}
theorem getLive {μ : List Addr} {H : Hp} {st : Sto} {n : Nat} {a : Addr} {ws : List W} (hs : Sim Γ μ st H) (hm : μ[n]? = some a) (h : getL st n = some ws) : ∃ xs, SqL Γ.K H a xs ∧ Reps Γ.K μ H ws xs := by
  obtain ⟨a', xs, e, h1, h2⟩ := getL_rep (v := .ref a) hs h (.ref hm)
  cases e
  exact ⟨xs, h1, h2⟩
theorem itok_live {μ : List Addr} {H : Hp} {n : Nat} {a : Addr} (hm : μ[n]? = some a) : ItOk Γ (Itl Γ.K a) (.live n) μ H := fun μ' H' st' e s i => by
  have hm := e.pre _ _ hm
  refine ⟨fun w h => ?_, fun h => ?_⟩
  · simp only [Src.at] at h
    cases eg : getL st' n with
    | none => rw [eg] at h; cases h
    | some ws =>
      rw [eg] at h
      have h : ws[i]? = some w := by simpa using h
      obtain ⟨xs, q1, q2⟩ := getLive s hm eg
      obtain ⟨v, z1, z2⟩ := q2.get h
      refine ⟨⟨xs, v, q1, z1⟩, fun x H'' hy => ?_⟩
      obtain ⟨rfl, hx⟩ := hy
      have := (hx xs q1).symm.trans z1
      cases this
      exact ⟨.refl, s, z2⟩
  · simp only [Src.at] at h
    cases eg : getL st' n with
    | none => rw [eg] at h; cases h
    | some ws =>
      rw [eg] at h
      have h : ws[i]? = none := by simpa using h
      obtain ⟨xs, q1, q2⟩ := getLive s hm eg
      exact ⟨xs, q1, by rw [← q2.length]; exact List.getElem?_eq_none_iff.mp h⟩
theorem itok_fix {μ : List Addr} {H : Hp} {a : Addr} {ws : List W} {xs : List V} (h1 : SqT Γ.K H a xs) (h2 : Reps Γ.K μ H ws xs) : ItOk Γ (Itt Γ.K a) (.fix ws) μ H := fun μ' H' st' e s i => by
  have q1 := e.tup _ _ h1
  have q2 := h2.mono e
  refine ⟨fun w h => ?_, fun h => ?_⟩
  · have h : ws[i]? = some w := by simpa [Src.at] using h
    obtain ⟨v, z1, z2⟩ := q2.get h
    refine ⟨⟨xs, v, q1, z1⟩, fun x H'' hy => ?_⟩
    obtain ⟨rfl, hx⟩ := hy
    have := (hx xs q1).symm.trans z1
    cases this
    exact ⟨.refl, s, z2⟩
  · have h : ws[i]? = none := by simpa [Src.at] using h
    exact ⟨xs, q1, by rw [← q2.length]; exact List.getElem?_eq_none_iff.mp h⟩
theorem itok_rng {μ : List Addr} {H : Hp} (lo : Int) (n : Nat) : ItOk Γ (Itr lo n) (.fix (upFrom lo n)) μ H := fun μ' H' st' e s i => by
  refine ⟨fun w h => ?_, fun h => ?_⟩
  · have h : (upFrom lo n)[i]? = some w := by simpa [Src.at] using h
    rw [upFrom_get] at h
    split at h
    · rename_i hi
      cases h
      refine ⟨hi, fun x H'' hy => ?_⟩
      obtain ⟨rfl, rfl⟩ := hy
      exact ⟨.refl, s, .int _⟩
    · cases h
  · have h : (upFrom lo n)[i]? = none := by simpa [Src.at] using h
    rw [upFrom_get] at h
    split at h
    · cases h
    · rename_i hi
      exact Nat.le_of_not_lt hi
/-- a list or a tuple -/
theorem qi_seq (hK : X.K = Γ.K) (ha : PE X iter (tE Γ Wx ea)) : PI X tg iter (tI Γ Wx (vSeq ea)) :=
  PI_imp (PI_or (pi_list ha) (pi_tup ha)) fun σ H R ⟨μ, l, st, hs, hl, h⟩ => by
    rw [hK]
    unfold vSeq at h
    cases ee : ea l st with
    | err => rw [ee] at h; exact h.elim
    | exc c p st1 =>
      rw [ee] at h
      exact .inl ⟨μ, l, st, hs, hl, by rw [ee]; exact h⟩
    | ok w st1 =>
      rw [ee] at h
      simp only [Res.bind] at h
      cases w with
      | tup ws =>
        refine .inr ⟨μ, l, st, hs, hl, ?_⟩
        rw [ee]
        intro μ1 H1 v e1 s1 r1
        cases r1 with
        | tup q1 q2 => exact ⟨_, rfl, ⟨_, q1⟩, h μ1 H1 _ e1 s1 (itok_fix q1 q2)⟩
      | ref n =>
        refine .inl ⟨μ, l, st, hs, hl, ?_⟩
        rw [ee]
        intro μ1 H1 v e1 s1 r1
        cases eg : getL st1 n with
        | none => simp only [eg] at h
        | some ws =>
          simp only [eg] at h
          cases r1 with
          | ref hm =>
            obtain ⟨xs, q1, q2⟩ := getLive s1 hm eg
            exact ⟨_, rfl, ⟨_, q1⟩, h μ1 H1 _ e1 s1 (itok_live hm)⟩
      | _ => exact h.elim
theorem vbind {f : Lo → Sto → Res (List W)} {k : List W → Sto → Res Src} {μ : List Addr} {l : Lo} {st : Sto} {σ : L2.St} {H : Hp} {R : It → Hp → Prop} (hs : Sim Γ μ st H) (hl : LRep Γ.K μ H l σ) (h : match (f l st).bind k with
  | .ok s st' => ∀ μ' H' J, Ext Γ.K μ μ' H H' → Sim Γ μ' st' H' → ItOk Γ J s μ' H' → R J H'
  | .exc c p st' => ∀ μ' H' d v, Ext Γ.K μ μ' H H' → Sim Γ μ' st' H' → Rep Γ.K μ' H' p v → H' d = some (.xd [(Γ.fld c, v)]) → Wx (.ref (Γ.ec c)) (some d) σ H'
  | .err => False) (S : List V → Hp → Prop) (hS : ∀ a st1 μ1 H1 b, Ext Γ.K μ μ1 H H1 → Sim Γ μ1 st1 H1 → Reps Γ.K μ1 H1 a b → (match k a st1 with
  | .ok s st' => ∀ μ' H' J, Ext Γ.K μ1 μ' H1 H' → Sim Γ μ' st' H' → ItOk Γ J s μ' H' → R J H'
  | .exc c p st' => ∀ μ' H' d v, Ext Γ.K μ1 μ' H1 H' → Sim Γ μ' st' H' → Rep Γ.K μ' H' p v → H' d = some (.xd [(Γ.fld c, v)]) → Wx (.ref (Γ.ec c)) (some d) σ H'
  | .err => False) → S b H1) : tA Γ Wx f σ H S := by
  refine ⟨μ, l, st, hs, hl, ?_⟩
  cases e : f l st with
  | err => rw [e] at h; exact h
  | exc c p st1 => rw [e] at h; exact h
  | ok a st1 =>
    rw [e] at h
    intro μ1 H1 b e1 s1 r1
    refine hS a st1 μ1 H1 b e1 s1 r1 ?_
    simp only [Res.bind] at h
    cases ek : k a st1 with
    | err => rw [ek] at h; exact h
    | exc c p st2 => rw [ek] at h; exact fun μ2 H2 d v e2 => h μ2 H2 d v (e1.trans e2)
    | ok s st2 => rw [ek] at h; exact fun μ2 H2 J e2 => h μ2 H2 J (e1.trans e2)
theorem qi_rng1 {p pos : Pos} (hg : Gl X "range") (hm : X.mg "range" = none) (ha : PA X [a] (tA Γ Wx eas)) (hs : starEach [a] X.env = [(false, eval a X.env)] := by rfl) : PI X tg (.Call (.Name "range" p) [a] [] pos) (tI Γ Wx (vRng1 eas)) :=
  PI_imp (pi_range1 hg hm ha hs) fun σ H R ⟨μ, l, st, hs, hl, h⟩ => vbind hs hl h _ fun ws st1 μ1 H1 xs e1 s1 r1 h1 => by
    cases r1 with
    | nil => exact h1.elim
    | cons r t =>
      cases t with
      | cons _ _ => cases r <;> exact h1.elim
      | nil =>
        cases r with
        | int j =>
          dsimp only at h1
          by_cases hj : -1000000 ≤ j ∧ j ≤ 1000000
          · rw [if_pos hj] at h1
            exact ⟨j, rfl, by omega, by omega, h1 μ1 H1 _ .refl s1 (itok_rng 0 _)⟩
          · rw [if_neg hj] at h1; exact h1.elim
        | _ => exact h1.elim
theorem qi_rng2 {p pos : Pos} (hg : Gl X "range") (hm : X.mg "range" = none) (ha : PA X [a, b] (tA Γ Wx eas)) (hs : starEach [a, b] X.env = [(false, eval a X.env), (false, eval b X.env)] := by rfl) (hs2 : starEach [b] X.env = [(false, eval b X.env)] := by rfl) : PI X tg (.Call (.Name "range" p) [a, b] [] pos) (tI Γ Wx (vRng2 eas)) :=
  PI_imp (pi_range2 hg hm ha hs hs2) fun σ H R ⟨μ, l, st, hs, hl, h⟩ => vbind hs hl h _ fun ws st1 μ1 H1 xs e1 s1 r1 h1 => by
    cases r1 with
    | nil => exact h1.elim
    | cons r t =>
      cases t with
      | nil => cases r <;> exact h1.elim
      | cons r2 t2 =>
        cases t2 with
        | cons _ _ => cases r <;> cases r2 <;> exact h1.elim
        | nil =>
          cases r with
          | int i =>
            cases r2 with
            | int j =>
              dsimp only at h1
              by_cases hj : (-1000000 ≤ i ∧ i ≤ 1000000) ∧ -1000000 ≤ j ∧ j ≤ 1000000
              · rw [if_pos hj] at h1
                exact ⟨i, j, rfl, by omega, h1 μ1 H1 _ .refl s1 (itok_rng i _)⟩
              · rw [if_neg hj] at h1; exact h1.elim
            | _ => exact h1.elim
          | _ => cases r2 <;> exact h1.elim

abbrev W0 : WX := fun _ _ _ _ => False
def bYes : Bv := fun _ st => .ok true st
theorem PTs_imp {ifs : List Expr} {t t' : TT} (h : PTs X ifs t) (k : ∀ σ H Q, t' σ H Q → t σ H Q) : PTs X ifs t' := ⟨fun pins s σ H Q I q => h.run pins s σ H Q I (k _ _ _ q)⟩
theorem qc_nil : PTs X [] (tT Γ Wx bYes) := PTs_imp pts_nil fun σ H Q ⟨μ, l, st, hs, hl, h⟩ => h.here hs rfl
theorem qc_one {c : Expr} {bc : Bv} (h : PT X c (tT Γ Wx bc)) : PTs X [c] (tT Γ Wx bc) := pts_one h
abbrev Rv := Lo → Sto → Res Unit
def cLoop (s : Src) (tg : Tg) (own : List Nat) (cond : Bv) (body : Rv) (l : Lo) : Nat → Nat → Sto → Res Unit
  | 0, _, _ => .err
  | f + 1, i, st => match s.at st i with
    | none => .err
    | some none => .ok () st
    | some (some w) => match tg w (wipeL l own) st with
      | none => .err
      | some l1 => match cond l1 st with
        | .ok b st1 => if b = true then (match body l1 st1 with | .ok _ st2 => cLoop s tg own cond body l f (i + 1) st2 | _ => .err) else cLoop s tg own cond body l f (i + 1) st1
        | _ => .err
def cApp (elt : Ev) (D : Nat) : Rv := fun l st => match elt l st with
  | .ok y st1 => match st1.c[D]? with | some (.lst us) => if us.length < 1000000 then .ok () (st1.put D (.lst (us ++ [y])) (W.low D y)) else .err | _ => .err
  | _ => .err
def eComp (n : Nat) (own : List Nat) (src : Sv) (tg : Tg) (cond : Bv) (elt : Ev) : Ev := fun l st => (src l st).bind fun s st1 => (cLoop s tg own cond (cApp elt st1.c.length) l n 0 (st1.push (.lst []))).bind fun _ st2 => .ok (.ref st1.c.length) st2
/-- a comprehension's target: what it binds are the block's own names -/
def CT (Γ : Gm) (g : TG) (tg : Tg) (vs : List Nat) : Prop := ∀ μ H l σ w v l' st Q, Sim Γ μ st H → LRep Γ.K μ H l (L2.wipe σ vs) → Rep Γ.K μ H w v → tg w l st = some l' → (∀ σ2, LRep Γ.K μ H l' σ2 → L2.wipe σ2 vs = L2.wipe σ vs → Q σ2 H) → g v (L2.wipe σ vs) H Q
theorem wipe_set {i : Nat} {x : Option V} : ∀ {vs : List Nat} {σ : L2.St}, i ∈ vs → L2.wipe (σ.set i x) vs = L2.wipe σ vs := by
  have key : ∀ {vs : List Nat} {σ : L2.St}, L2.wipe (σ.set i x) vs = L2.wipe σ vs ∨ (i ∉ vs ∧ L2.wipe (σ.set i x) vs = (L2.wipe σ vs).set i x) := by
    intro vs
    induction vs with
    | nil => intro σ; exact .inr ⟨by simp, rfl⟩
    | cons v r ih =>
      intro σ
      unfold L2.wipe
      rcases ih (σ := σ) with e | ⟨h, e⟩
      · exact .inl (by rw [e])
      · rw [e]
        by_cases hv : v = i
        · subst hv; exact .inl (by rw [List.set_set])
        · exact .inr ⟨by simp [h]; exact fun z => hv z.symm, by rw [List.set_comm _ _ (Ne.symm hv)]⟩
  intro vs σ h
  rcases key (vs := vs) (σ := σ) with e | ⟨h', _⟩
  · exact e
  · exact absurd h h'
theorem wipe_wipe : ∀ {vs : List Nat} {σ : L2.St}, L2.wipe (L2.wipe σ vs) vs = L2.wipe σ vs := by
  have key : ∀ (us vs : List Nat) (σ : L2.St), (∀ u ∈ us, u ∈ vs) → L2.wipe (L2.wipe σ us) vs = L2.wipe σ vs := by
    intro us
    induction us with
    | nil => intro vs σ _; rfl
    | cons u r ih =>
      intro vs σ h
      show L2.wipe ((L2.wipe σ r).set u none) vs = _
      rw [wipe_set (h u (by simp)), ih vs σ fun x hx => h x (by simp [hx])]
  intro vs σ
  exact key vs vs σ fun _ h => h
theorem ct_name {i : Nat} {vs : List Nat} (h : i ∈ vs) : CT Γ (gName i) (tgName i) vs := fun μ H l σ w v l' st Q hs hl hr e k => by
  cases e
  exact k _ (hl.set hr i) (by rw [wipe_set h, wipe_wipe])
theorem ct_pair {i j : Nat} {vs : List Nat} (hi : i ∈ vs) (hj : j ∈ vs) : CT Γ (gTup Γ.K 2 (gCons (gName i) (gCons (gName j) gNil))) (fun w l st => match w with | .tup [x, y] => some ((l.set i (some x)).set j (some y)) | _ => none) vs := fun μ H l σ w v l' st Q hs hl hr e k => by
  dsimp only at e
  split at e
  · rename_i x y
    cases e
    cases hr with
    | tup q1 q2 =>
      cases q2 with
      | cons rx t =>
        cases t with
        | cons ry t2 =>
          cases t2
          exact ⟨_, _, rfl, q1, rfl, _, _, rfl, _, _, rfl, rfl, k _ ((hl.set rx i).set ry j) (by rw [wipe_set hj, wipe_set hi, wipe_wipe])⟩
  · cases e
theorem lc_run {own : List (Str × Nat)} {src : Sv} {t : Tg} {g : TG} {bc : Bv} {n : Nat} (hgt : CT Γ g t (own.map (·.2))) (σ : L2.St) (H : Hp) (Q : VK) (h : tE Γ Wx (eComp n (own.map (·.2)) src t bc ea) σ H Q) :
    tLc (tI Γ Wx src) g (tT Γ W0 bc) (tE Γ W0 ea) (own.map (·.2)) σ H Q := by
    obtain ⟨μ, l, st, hs, hl, h⟩ := h
    refine ⟨μ, l, st, hs, hl, ?_⟩
    unfold eComp at h
    cases es : src l st with
    | err => rw [es] at h; exact h
    | exc c p st1 => rw [es] at h; exact h
    | ok s st1 =>
      rw [es] at h
      intro μ1 H1 J e1 s1 hJ D hD
      have h := Post.mono (show Post Γ Wx (Rep Γ.K) μ σ H Q ((cLoop s t (own.map (·.2)) bc (cApp ea st1.c.length) l n 0 (st1.push (.lst []))).bind fun _ st2 => .ok (.ref st1.c.length) st2) from h) e1
      have E : Ext Γ.K μ1 (μ1 ++ [D]) H1 (upd H1 D (.lst [])) := ext_new hD
      have s2 : Sim Γ (μ1 ++ [D]) (st1.push (.lst [])) (upd H1 D (.lst [])) := s1.new hD ⟨[], upd_same, .nil⟩ rfl
      have hd : (μ1 ++ [D])[st1.c.length]? = some D := by rw [← s1.len]; simp
      have h := Post.mono h E
      have hJ := hJ.mono E
      have hl := hl.mono (e1.trans E)
      generalize st1.c.length = d at *
      refine ⟨fun i m H' => ∃ μ' st', Ext Γ.K (μ1 ++ [D]) μ' (upd H1 D (.lst [])) H' ∧ Sim Γ μ' st' H' ∧ Post Γ Wx (Rep Γ.K) μ' σ H' Q ((cLoop s t (own.map (·.2)) bc (cApp ea d) l m i st').bind fun _ st2 => .ok (.ref d) st2), ⟨n, _, _, .refl, s2, h⟩, ?_⟩
      rintro i m H' ⟨μ2, st2, e2, s2', h2⟩
      obtain ⟨go, stop⟩ := hJ μ2 H' st2 e2 s2' i
      cases m with
      | zero => exact h2.elim
      | succ m =>
        unfold cLoop at h2
        cases ea1 : s.at st2 i with
        | none => rw [ea1] at h2; exact h2.elim
        | some oo =>
          cases oo with
          | none =>
            rw [ea1] at h2
            exact .inl ⟨stop ea1, Post.here (show Post Γ Wx (Rep Γ.K) μ2 σ H' Q (.ok (.ref d) st2) from h2) s2' (.ref (e2.pre _ _ hd))⟩
          | some w =>
            rw [ea1] at h2
            obtain ⟨go1, go2⟩ := go w ea1
            refine .inr ⟨go1, fun H3 => ∃ μ' st', Ext Γ.K (μ1 ++ [D]) μ' (upd H1 D (.lst [])) H3 ∧ Sim Γ μ' st' H3 ∧ Post Γ Wx (Rep Γ.K) μ' σ H3 Q ((cLoop s t (own.map (·.2)) bc (cApp ea d) l m (i + 1) st').bind fun _ st2 => .ok (.ref d) st2), fun H3 q => ⟨m, Nat.lt_succ_self _, q⟩, fun v H3 hy => ?_⟩
            obtain ⟨y1, y2, y3⟩ := go2 v H3 hy
            dsimp only at h2
            cases et : t w (wipeL l (own.map Prod.snd)) st2 with
            | none => rw [et] at h2; exact h2.elim
            | some l3 =>
              rw [et] at h2
              dsimp only at h2
              have e3 := e2.trans y1
              have h2 := Post.mono h2 y1
              refine hgt μ2 H3 _ σ w v l3 st2 _ y2 ((hl.mono e3).wipe (own.map Prod.snd)) y3 et fun σ2 lr2 hw => ⟨hw, μ2, l3, st2, y2, lr2, ?_⟩
              cases eb : bc l3 st2 with
              | err => rw [eb] at h2; exact h2.elim
              | exc c p st4 => rw [eb] at h2; exact h2.elim
              | ok bb st4 =>
                rw [eb] at h2
                intro μ4 H4 b' e4 s4 r4
                subst r4
                have h4 := Post.mono h2 e4
                dsimp only at h4
                cases bb with
                | false => exact ⟨μ4, st4, e3.trans e4, s4, h4⟩
                | true =>
                  refine ⟨μ4, l3, st4, s4, lr2.mono e4, ?_⟩
                  have h4 : Post Γ Wx (Rep Γ.K) μ4 σ H4 Q ((match cApp ea d l3 st4 with | .ok _ st2 => cLoop s t (own.map Prod.snd) bc (cApp ea d) l m (i + 1) st2 | _ => Res.err).bind fun _ st2 => .ok (.ref d) st2) := h4
                  unfold cApp at h4
                  cases ey : ea l3 st4 with
                  | err => rw [ey] at h4; exact h4.elim
                  | exc c p st5 => rw [ey] at h4; exact h4.elim
                  | ok y st5 =>
                    rw [ey] at h4
                    intro μ5 H5 yv e5 s5 r5
                    have h5 := Post.mono h4 e5
                    have hd5 := (e3.trans (e4.trans e5)).pre _ _ hd
                    dsimp only at h5
                    cases ec : st5.c[d]? with
                    | none => rw [ec] at h5; exact h5.elim
                    | some cc =>
                      rw [ec] at h5
                      cases cc with
                      | lst us =>
                        obtain ⟨acc, q1, q2⟩ := s5.cell d _ _ ec hd5
                        dsimp only at h5
                        by_cases hlen : us.length < 1000000
                        · rw [if_pos hlen] at h5
                          refine ⟨acc, q1, by rw [← q2.length]; exact Nat.lt_of_lt_of_le hlen (le_line (Nat.le_refl _)), ?_⟩
                          have E5 := ext_wr (K := Γ.K) (μ := μ5) (o := .lst (acc ++ [yv])) q1
                          refine ⟨μ5, _, (e3.trans (e4.trans e5)).trans E5, s5.write (c := .lst (us ++ [y])) (b := W.low d y) ec hd5 q1 rfl rfl ⟨_, upd_same, (q2.snoc r5).mono E5⟩ fun b q => lows_append q (by simp [W.lows]; exact b), Post.mono h5 E5⟩
                        · rw [if_neg hlen] at h5; exact h5.elim
                      | _ => exact h5.elim
/-- [elt for tg in iter if ..] -/
theorem qe_comp {ifs : List Expr} {scope : Scope} {own : List (Str × Nat)} {pos : Pos} {src : Sv} {t : Tg} {g : TG} {bc : Bv} {n : Nat} (hc : X.calm = true) (hN : X.N.Nodup) (hi : PI X tg iter (tI Γ Wx src)) (ok : BlkOk X.N X.env.scope scope own)
    (hg : ∀ (s : Shared) (H : Hp) (C : Addr) (cl : List (Str × Addr)) (fp : List Addr), PG (X.blk s H scope (compEnvC scope cl C X.env) fp) tg g) (hgt : CT Γ g t (own.map (·.2)))
    (ht : ∀ (s : Shared) (H : Hp) (C : Addr) (cl : List (Str × Addr)) (fp : List Addr), PTs (X.blk s H scope (compEnvC scope cl C X.env) fp) ifs (tT Γ W0 bc))
    (he : ∀ (s : Shared) (H : Hp) (C : Addr) (cl : List (Str × Addr)) (fp : List Addr), PE (X.blk s H scope (compEnvC scope cl C X.env) fp) elt (tE Γ W0 ea))
    (hs : ∀ x, foldedSetIterable iter X.env x = pure x := by intro _; rfl) : PE X (.ListComp elt [⟨tg, iter, ifs, 0⟩] scope pos) (tE Γ Wx (eComp n (own.map (·.2)) src t bc ea)) :=
  PE_imp (pe_lc hc hN hi ok hg ht he hs) fun σ H Q h => lc_run hgt σ H Q h
/-- y = [elt for tg in iter if ..] -/
theorem qs_comp {ifs : List Expr} {scope : Scope} {own : List (Str × Nat)} {pos spos py : Pos} {i : Nat} {y : Str} {src : Sv} {t : Tg} {g : TG} {bc : Bv} {n : Nat} (hc : X.calm = true) (hN : X.N.Nodup) (hy : X.N[i]? = some y) (hyl : X.env.scope.names.lookup y = some .local) (hsw : swapsWith (.ListComp elt [⟨tg, iter, ifs, 0⟩] scope pos) (some (.Name y py)) spos.line X.env = pure true) (hi : PI X tg iter (tI Γ Wx src)) (ok : BlkOk X.N X.env.scope scope own)
    (hg : ∀ (s : Shared) (H : Hp) (C : Addr) (cl : List (Str × Addr)) (fp : List Addr), PG (X.blk s H scope (compEnvC scope cl C X.env) fp) tg g) (hgt : CT Γ g t (own.map (·.2)))
    (ht : ∀ (s : Shared) (H : Hp) (C : Addr) (cl : List (Str × Addr)) (fp : List Addr), PTs (X.blk s H scope (compEnvC scope cl C X.env) fp) ifs (tT Γ W0 bc))
    (he : ∀ (s : Shared) (H : Hp) (C : Addr) (cl : List (Str × Addr)) (fp : List Addr), PE (X.blk s H scope (compEnvC scope cl C X.env) fp) elt (tE Γ W0 ea))
    (hs : ∀ x, foldedSetIterable iter X.env x = pure x := by intro _; rfl) : PS X (.Assign [.Name y py] (.ListComp elt [⟨tg, iter, ifs, 0⟩] scope pos) spos) (tS Γ Wx (sSet (tgName i) (eComp n (own.map (·.2)) src t bc ea))) :=
  PS_imp (ps_setLc hc hN hy hyl hsw hi ok hg ht he hs) fun D σ H ⟨μ, l, st, hs, hl, h⟩ => lc_run hgt σ H _ (tG_bindS hs hl h _ fun w st1 μ1 H1 v e1 s1 r1 h1 => h1.here s1 ((hl.mono e1).set r1 i))
end
end RB

set_option Elab.async false
set_option linter.all false
set_option maxRecDepth 100000
set_option maxHeartbeats 4000000
namespace L2
open PySem PySem.Spec PyProof.Rows
section
variable {P : Program} {w : World} {A : Around} {E : Value → Shared → Prop} {z : Shared}
set_option maxHeartbeats 3200000 in
/-- set(list of whole numbers) -/
theorem set_of_listI {l : Addr} {vals : Array Value} (ns : List Int) {Q : Value → Shared → Prop} (calm : A.handled = none) (isl : z.heap.IsList l vals) (are : IntsAre vals.toList ns) (room : ns.length + 1 < scanBound)
    (want : ∀ (h' : Heap) (tk c : Nat), SetR w h' z.heap.objs.size (fun j => decide (j ∈ ns)) c → c ≤ ns.length → (∀ b o, z.heap.get? b = some o → h'.get? b = some o) → Q (.ref z.heap.objs.size) { z with heap := h', toks := tk }) :
    wpAny (model P w) A (call (.type "set") [.ref l]) Q E z := by
  have many : vals.size = ns.length := by
    have q := IntsAre.length are
    rwa [Array.length_toList] at q
  obtain ⟨c, tl, hmro⟩ := F.called_set.mro
  have made := F.called_set.made
  have subs := F.called_set.sub
  refine wpAny_call (codeAny_of_tree ?_)
  show wpAny _ _ (callAny (.type "set") _) _ _ _
  refine wpAny_pure ⟨Code.quiet_builtin _ (by decide +kernel), codeAny_builtin F.entry_type_call ?_⟩
  rw [Around.under_plain (weight_type_call_type "set" [.ref l] []) rfl]
  have nt := F.called_set.notType
  have cc := F.called_set.canCreate
  have ct := F.typeCall_set_1 (.ref l)
  repeat (any_goals (first | assumption | wp_step))
  refine codeAny_mono (code_set_led1 (.ref l) (E := E) (Q₁ := fun obj s₁ => obj = .ref z.heap.objs.size ∧ s₁ = { z with heap := z.heap.push { cls := .type "set", dict := none, data := .set #[] 0 (.fresh 0 0 (!w.params.followText "set-order")) } }) ⟨rfl, rfl⟩) fun r s₁ hr => ?_
  match r, hr with
  | .error e, hr => exact hr
  | .ok .next, hr => exact hr
  | .ok .brk, hr => exact hr
  | .ok .cont, hr => exact hr
  | .ok (.ret obj), hr =>
    obtain ⟨rfl, rfl⟩ := hr
    have stands : (z.heap.push { cls := .type "set", dict := none, data := .set #[] 0 (.fresh 0 0 (!w.params.followText "set-order")) }).get? z.heap.objs.size = some { cls := .type "set", dict := none, data := .set #[] 0 (.fresh 0 0 (!w.params.followText "set-order")) } := Heap.get?_push_size _ rfl
    have typed : Shared.TypeIs { z with heap := z.heap.push { cls := .type "set", dict := none, data := .set #[] 0 (.fresh 0 0 (!w.params.followText "set-order")) } } (.ref z.heap.objs.size) "set" := ⟨_, stands, rfl⟩
    have li := F.called_set.init.lookup
    have bi := F.called_set.init.bind (.ref z.heap.objs.size)
    repeat (any_goals (first | assumption | wp_step))
    refine codeAny_mono (codeAny_call_builtin (R := wants (fun r s₂ => r = .none ∧ ∃ h' tk c, s₂ = { z with heap := h', toks := tk } ∧ SetR w h' z.heap.objs.size (fun j => decide (j ∈ ns)) c ∧ c ≤ ns.length ∧ (∀ b o, z.heap.get? b = some o → h'.get? b = some o)) E) F.called_set.init.plain F.entry_set_init (check_set_init_1 typed ?_)) fun r₂ s₂ hr₂ => ?_
    · obtain ⟨ol, hol, hcl, nl, hdl⟩ := isl
      obtain ⟨oc, od, odt, osl⟩ := ol
      simp only at hcl hdl
      subst hcl; subst hdl
      have there : (z.heap.push { cls := .type "set", dict := none, data := .set #[] 0 (.fresh 0 0 (!w.params.followText "set-order")) }).get? l = some { cls := .type "list", dict := od, data := .seq vals nl, slots := osl } := Heap.get?_push_of_some _ hol
      have s1 := F.sub_list_set
      have s2 := F.sub_list_frozenset
      have s3 : (Value.type "list" == Value.type "dict") = false := by decide
      have is1 : (z.heap.push { cls := .type "set", dict := none, data := .set #[] 0 (.fresh 0 0 (!w.params.followText "set-order")) }).IsList l vals := ⟨_, there, rfl, nl, rfl⟩
      unfold Builtin.«set.__init__» noKeywords Builtin.Frozenset.updateFrom
      generalize hPI : pyIter = PI
      wp_walk
      subst hPI
      refine wpAny_pyIter_list is1 ?_
      refine wpAny_bind (wpAny_runValue ?_)
      have below : l < z.heap.objs.size := Heap.lt_size hol
      have calm3 : A.in1.in1.in1.handled = none := by simp [calm]
      have apart : l ≠ (z.heap.push { cls := .type "set", dict := none, data := .set #[] 0 (.fresh 0 0 (!w.params.followText "set-order")) }).objs.size := by
        rw [Heap.size_push]
        exact Nat.ne_of_lt (Nat.lt_succ_of_lt below)
      have notIn : z.heap.objs.size ∉ [(z.heap.push { cls := .type "set", dict := none, data := .set #[] 0 (.fresh 0 0 (!w.params.followText "set-order")) }).objs.size, l] := by
        rw [Heap.size_push]
        simp only [List.mem_cons, List.mem_singleton, List.not_mem_nil, or_false, not_or]
        exact ⟨Nat.ne_of_lt (Nat.lt_succ_self _), Nat.ne_of_gt below⟩
      have each : ∀ (i : Nat) (v : Value), vals[i]? = some v → ∃ k t, ns[i]? = some k ∧ v = .int k t := fun i v hv => by
        have hi : i < ns.length := by rw [← many]; exact (Array.getElem?_eq_some_iff.mp hv).1
        obtain ⟨t, e⟩ := PyProof.Rows.IntsAre.int_at are i v (by rw [Array.getElem?_toList]; exact hv)
        refine ⟨ns[i], t, List.getElem?_eq_getElem hi, ?_⟩
        rw [e, List.getD_eq_getElem?_getD, List.getElem?_eq_getElem hi] <;> rfl
      refine set_update_ints ((Walks.list calm3 _ l apart vals).toS) z.heap.objs.size notIn ns many room each (vals.size - 0) 0 _ (by omega) (Nat.zero_le _) ⟨⟨_, Heap.get?_push_size _ rfl, rfl, rfl⟩, (is1.push _)⟩ ?first ?last
      case first =>
        have still : ((z.heap.push { cls := .type "set", dict := none, data := .set #[] 0 (.fresh 0 0 (!w.params.followText "set-order")) }).push { cls := .type "list_iterator", data := .fields #[.ref l, .int 0 0] }).get? z.heap.objs.size
            = some { cls := .type "set", dict := none, data := .set #[] 0 (.fresh 0 0 (!w.params.followText "set-order")) } := Heap.get?_push_of_some _ stands
        exact ⟨0, Nat.le_refl 0, setR_new_at still⟩
      case last =>
        intro z2 c2 mv hc2 hS2
        obtain ⟨h2, g2, d2, tk2, os2⟩ := z2
        have eg : g2 = z.gens := mv.gens
        have ed : d2 = z.drawn := mv.drawn
        have eo : os2 = z.os := mv.os
        subst eg; subst ed; subst eo
        show wpAny _ _ _ _ _ _
        refine wpAny_pure ?_
        show wpAny _ _ (ret Value.none) _ _ _
        rw [many] at hc2
        refine wpAny_pure ⟨rfl, h2, tk2, c2, rfl, hS2, hc2, fun b o e => ?_⟩
        have b0 : b < z.heap.objs.size := Heap.lt_size e
        have b1 : b ≠ z.heap.objs.size := Nat.ne_of_lt b0
        have b2 : b ≠ (z.heap.push { cls := .type "set", dict := none, data := .set #[] 0 (.fresh 0 0 (!w.params.followText "set-order")) }).objs.size := by
          rw [Heap.size_push]
          exact Nat.ne_of_lt (Nat.lt_succ_of_lt b0)
        exact mv.heap b o (by simp only [List.mem_cons, List.mem_singleton, List.not_mem_nil, or_false, not_or]; exact ⟨b1, b2⟩) (Heap.get?_push_of_some _ (Heap.get?_push_of_some _ e))
    · match r₂, hr₂ with
      | .error e, hr₂ => exact hr₂
      | .ok .next, hr₂ => exact hr₂.elim
      | .ok .brk, hr₂ => exact hr₂.elim
      | .ok .cont, hr₂ => exact hr₂.elim
      | .ok (.ret r), hr₂ =>
        obtain ⟨rfl, h2, tk, c2, rfl, q1, q2, q3⟩ := hr₂
        repeat (any_goals (first | assumption | wp_step))
        exact want _ _ _ q1 q2 q3
end
end L2

set_option Elab.async false
set_option linter.all false
set_option maxRecDepth 100000
set_option maxHeartbeats 4000000
namespace L2
open PySem PySem.Spec PyProof.Rows
theorem nodup_count {xs ys : List Int} (hx : xs.Nodup) (hy : ys.Nodup) (h : ∀ k, k ∈ xs ↔ k ∈ ys) : xs.length = ys.length :=
  ((List.perm_ext_iff_of_nodup hx hy).mpr h).length_eq
def insU (x : Int) : List Int → List Int
  | [] => [x]
  | y :: r => if x < y then x :: y :: r else if x = y then y :: r else y :: insU x r
/-- the members, rising -/
def setI (ns : List Int) : List Int := ns.foldr insU []
theorem insU_mem (x k : Int) : ∀ l, k ∈ insU x l ↔ k = x ∨ k ∈ l
  | [] => by simp [insU]
  | y :: r => by
    unfold insU
    split
    · simp
    · split
      · rename_i e; subst e; simp
      · simp [insU_mem x k r]
        constructor
        · rintro (h | h | h)
          · exact .inr (.inl h)
          · exact .inl h
          · exact .inr (.inr h)
        · rintro (h | h | h)
          · exact .inr (.inl h)
          · exact .inl h
          · exact .inr (.inr h)
theorem insU_rises (x : Int) : ∀ l : List Int, l.Pairwise (· < ·) → (insU x l).Pairwise (· < ·)
  | [], _ => by simp [insU]
  | y :: r, h => by
    rw [List.pairwise_cons] at h
    unfold insU
    split
    · rename_i hx
      rw [List.pairwise_cons]
      refine ⟨fun z hz => ?_, by rw [List.pairwise_cons]; exact h⟩
      rcases List.mem_cons.mp hz with e | e
      · omega
      · have := h.1 z e; omega
    · split
      · rw [List.pairwise_cons]; exact h
      · rw [List.pairwise_cons]
        refine ⟨fun z hz => ?_, insU_rises x r h.2⟩
        rcases (insU_mem x z r).mp hz with e | e
        · omega
        · exact h.1 z e
theorem setI_mem (k : Int) : ∀ ns, k ∈ setI ns ↔ k ∈ ns
  | [] => by simp [setI]
  | x :: r => by
    show k ∈ insU x (setI r) ↔ _
    rw [insU_mem, setI_mem k r, List.mem_cons]
theorem setI_rises : ∀ ns, (setI ns).Pairwise (· < ·)
  | [] => .nil
  | x :: r => insU_rises x _ (setI_rises r)
theorem rises_nodup {l : List Int} (h : l.Pairwise (· < ·)) : l.Nodup := h.imp fun h => by omega
theorem rises_same : ∀ {l l' : List Int}, l.Pairwise (· < ·) → l'.Pairwise (· < ·) → (∀ k, k ∈ l ↔ k ∈ l') → l = l'
  | [], [], _, _, _ => rfl
  | [], y :: s, _, _, h => absurd ((h y).mpr (by simp)) (by simp)
  | x :: r, [], _, _, h => absurd ((h x).mp (by simp)) (by simp)
  | x :: r, y :: s, h1, h2, h => by
    rw [List.pairwise_cons] at h1 h2
    have e : x = y := by
      rcases List.mem_cons.mp ((h x).mp (by simp)) with e | e
      · exact e
      · rcases List.mem_cons.mp ((h y).mpr (by simp)) with e2 | e2
        · exact e2.symm
        · have := h2.1 x e; have := h1.1 y e2; omega
    subst e
    rw [rises_same h1.2 h2.2 fun k => ?_]
    have hk := h k
    simp only [List.mem_cons] at hk
    constructor
    · intro a
      rcases hk.mp (.inr a) with b | b
      · subst b; have := h1.1 k a; omega
      · exact b
    · intro a
      rcases hk.mpr (.inr a) with b | b
      · subst b; have := h2.1 k a; omega
      · exact b
section
variable {X : Cx}
/-- set(s) of whole numbers -/
def rSetI (K : PySem.W.Frag) (w : World) : List V → Hp → VK → Prop := fun vs H Q => ∃ (a : Addr) (ns : List Int), vs = [.ref a] ∧ (SqL K H a (ns.map V.int) ∨ SqT K H a (ns.map V.int)) ∧ ns.length < 60 ∧ ∀ p, H p = none → Q (.ref p) (upd H p (SetO w p (fun j => decide (j ∈ ns)) (setI ns).length))
theorem card_of {w : World} {h : Heap} {a : Addr} {ns : List Int} {c : Nat} (R : SetR w h a (fun j => decide (j ∈ ns)) c) : c = (setI ns).length := by
  obtain ⟨o, es, ep, t, _, _, _, _, nd, mem, _, _, hn, _⟩ := R
  have e := nodup_count nd (rises_nodup (setI_rises ns)) fun k => by
    rw [setI_mem]
    constructor
    · intro z; exact of_decide_eq_true ((mem k).mpr z)
    · intro z; exact (mem k).mp (decide_eq_true z)
  rw [← e, ← hn]
  simp
theorem cr_setI (hc : X.calm = true) : CallR X (.type "set") (rSetI X.K X.w) := by
  intro ps st σ H xs us Q I r want
  obtain ⟨a, ns, rfl, hs, hl, q⟩ := want
  rw [Vals.ref1 r]
  have fin : ∀ (h2 : Heap) (tk c : Nat), SetR X.w h2 st.heap.objs.size (fun j => decide (j ∈ ns)) c → (∀ b o, st.heap.get? b = some o → h2.get? b = some o) → EP X ps σ Q (.ref st.heap.objs.size) { st with heap := h2, toks := tk } := fun h2 tk c R k => by
    have e := card_of R
    subst e
    have n := I.hok.fresh (Nat.le_refl st.heap.objs.size)
    exact ⟨.ref _, _, I.laid (t' := tk) k (Nat.le_refl _) (setO_new R), rfl, q _ n⟩
  rcases hs with hs | hs
  · obtain ⟨its, rv, pl, hz⟩ := I.list hs
    exact set_of_listI ns (I.ok.hd hc) pl.isList (by simpa using rv.ints) (by unfold scanBound; omega) fun h2 tk c R _ k => fin h2 tk c R k
  · obtain ⟨its, rv, pl, hz⟩ := I.tuple hs
    exact call_set_tupI ns (I.ok.hd hc) pl (by simpa using rv.ints) (by unfold scanBound; omega) fun h2 tk c R _ k => fin h2 tk c R k
/-- len of such a set -/
def rLenSet (w : World) : List V → Hp → VK → Prop := fun vs H Q => ∃ (a : Addr) (S : Int → Bool) (n : Nat), vs = [.ref a] ∧ H a = some (SetO w a S n) ∧ n < 1000 ∧ Q (.int (n : Nat)) H
theorem cr_lenSet : CallR X (.builtin "len") (rLenSet X.w) := by
  intro ps st σ H xs us Q I r want
  obtain ⟨a, S, n, rfl, ha, hn, q⟩ := want
  rw [Vals.ref1 r]
  obtain ⟨o, es, ep, t, ho, hex, hd, _, _, _, _, hf, hz, _⟩ := setO_get I ha
  exact call_len_set ho hex hd hf (by rw [hz]; omega) ⟨.int (n : Nat), H, I.tok _, ⟨_, by rw [hz]⟩, q⟩
end
end L2
namespace RB
open PySem PySem.Spec PyProof.Rows L2
def fSortSet (w : W) (st : Sto) : Res W := match (seqOf st w).bind intsOf with | some ns => if ns.length < 60 then .ok (.ref st.c.length) (st.push (.lst ((setI ns).map .int))) else .err | none => .err
def fLenSet (w : W) (st : Sto) : Res W := match (seqOf st w).bind intsOf with | some ns => if ns.length < 60 then .ok (.int ((setI ns).length : Nat)) st else .err | none => .err
theorem setI_le (ns : List Int) : (setI ns).length ≤ ns.length := by
  induction ns with
  | nil => exact Nat.le_refl _
  | cons x r ih =>
    have key : ∀ l : List Int, (insU x l).length ≤ l.length + 1 := by
      intro l
      induction l with
      | nil => exact Nat.le_refl _
      | cons y s ih2 =>
        unfold insU
        split
        · simp
        · split
          · simp
          · simp; exact ih2
    have := key (setI r)
    show (insU x (setI r)).length ≤ _
    simp
    omega
section
variable {X : Cx} {Γ : Gm} {Wx : WX} {e a b o : Expr} {es : List Expr} {ea eb eo : Ev} {eas : Evs}
theorem seqInts {μ : List Addr} {H : Hp} {st : Sto} {w : W} {v : V} {ns : List Int} (hs : Sim Γ μ st H) (h : (seqOf st w).bind intsOf = some ns) (r : Rep Γ.K μ H w v) : ∃ a, v = .ref a ∧ (SqL Γ.K H a (ns.map V.int) ∨ SqT Γ.K H a (ns.map V.int)) := by
  cases e : seqOf st w with
  | none => rw [e] at h; cases h
  | some ws =>
    rw [e] at h
    obtain ⟨a, xs, rfl, h1, h2⟩ := seqOf_rep hs e r
    have q := ints_rep h h2
    subst q
    exact ⟨a, rfl, h1⟩
theorem qe_sortSet {p p2 q pos : Pos} (hK : X.K = Γ.K) (hc : X.calm = true) (hg : Gl X "sorted") (hm : X.mg "sorted" = none) (hg2 : Gl X "set") (hm2 : X.mg "set" = none) (ha : PE X a (tE Γ Wx ea)) (na : starEach [a] X.env = (false, eval a X.env) :: starEach [] X.env := by rfl)
    (nb : starEach [.Call (.Name "set" p2) [a] [] q] X.env = (false, eval (.Call (.Name "set" p2) [a] [] q) X.env) :: starEach [] X.env := by rfl) : PE X (.Call (.Name "sorted" p) [.Call (.Name "set" p2) [a] [] q] [] pos) (tE Γ Wx (eU fSortSet ea)) :=
  PE_imp (pe_callB (cr_sortedSet hc) hg hm (by decide +kernel) (pa_cons (pe_callTy (cr_setI hc) hg2 hm2 (by decide +kernel) (pa_cons ha pa_nil na) (by decide) (by decide) na rfl) pa_nil nb) (by decide) (by decide) nb rfl) fun σ H Q ⟨μ, l, st, hs, hl, h⟩ => tG_bind hs hl h _ fun w st1 μ1 H1 v e1 s1 r1 h1 => by
    unfold fSortSet at h1
    split at h1
    · rename_i ns en
      split at h1
      · rename_i hlen
        obtain ⟨a, rfl, h2⟩ := seqInts s1 en r1
        rw [hK]
        refine ⟨a, ns, rfl, h2, hlen, fun p hp => ⟨p, _, _, rfl, upd_same, by have := setI_le ns; omega, fun ns' p' so me le hp' => ?_⟩⟩
        have eq := rises_same so (setI_rises ns) fun k => by rw [me, setI_mem]; exact ⟨of_decide_eq_true, decide_eq_true⟩
        subst eq
        have E1 : Ext Γ.K μ1 μ1 H1 (upd H1 p (SetO X.w p (fun j => decide (j ∈ ns)) (setI ns).length)) := ext_upd (.inl hp)
        have s2 := s1.other (o := SetO X.w p (fun j => decide (j ∈ ns)) (setI ns).length) hp
        have E2 : Ext Γ.K μ1 (μ1 ++ [p']) (upd H1 p (SetO X.w p (fun j => decide (j ∈ ns)) (setI ns).length)) (upd (upd H1 p (SetO X.w p (fun j => decide (j ∈ ns)) (setI ns).length)) p' (.lst ((setI ns).map V.int))) := ext_new hp'
        have rr : Reps Γ.K (μ1 ++ [p']) (upd (upd H1 p (SetO X.w p (fun j => decide (j ∈ ns)) (setI ns).length)) p' (.lst ((setI ns).map V.int))) ((setI ns).map W.int) ((setI ns).map V.int) := Reps.of_ints _
        exact h1 _ _ _ (E1.trans E2) (s2.new hp' ⟨_, upd_same, rr⟩ ((Reps.of_ints (K := Γ.K) (μ := μ1) (H := H1) (setI ns)).low (Nat.le_of_eq s1.len))) (.ref (by rw [← s1.len]; simp))
      · exact h1.elim
    · exact h1.elim
theorem qe_lenSet {p p2 q pos : Pos} (hK : X.K = Γ.K) (hc : X.calm = true) (hg : Gl X "len") (hm : X.mg "len" = none) (hg2 : Gl X "set") (hm2 : X.mg "set" = none) (ha : PE X a (tE Γ Wx ea)) (na : starEach [a] X.env = (false, eval a X.env) :: starEach [] X.env := by rfl)
    (nb : starEach [.Call (.Name "set" p2) [a] [] q] X.env = (false, eval (.Call (.Name "set" p2) [a] [] q) X.env) :: starEach [] X.env := by rfl) : PE X (.Call (.Name "len" p) [.Call (.Name "set" p2) [a] [] q] [] pos) (tE Γ Wx (eU fLenSet ea)) :=
  PE_imp (pe_callB cr_lenSet hg hm (by decide +kernel) (pa_cons (pe_callTy (cr_setI hc) hg2 hm2 (by decide +kernel) (pa_cons ha pa_nil na) (by decide) (by decide) na rfl) pa_nil nb) (by decide) (by decide) nb rfl) fun σ H Q ⟨μ, l, st, hs, hl, h⟩ => tG_bind hs hl h _ fun w st1 μ1 H1 v e1 s1 r1 h1 => by
    unfold fLenSet at h1
    split at h1
    · rename_i ns en
      split at h1
      · rename_i hlen
        obtain ⟨a, rfl, h2⟩ := seqInts s1 en r1
        rw [hK]
        refine ⟨a, ns, rfl, h2, hlen, fun p hp => ⟨p, _, _, rfl, upd_same, by have := setI_le ns; omega, ?_⟩⟩
        exact h1 _ _ _ (ext_upd (.inl hp)) (s1.other hp) (.int _)
      · exact h1.elim
    · exact h1.elim
end
end RB

set_option Elab.async false
set_option linter.all false
set_option maxRecDepth 100000
set_option maxHeartbeats 4000000
namespace PySem
namespace ErrX
open PySem.W PySem.Calls PyProof.Rows PySem.HandSPX
abbrev exTail : List Value := [.type "Exception", .type "BaseException", .type "object"]
/-- own classes, then Exception's mro -/
def refsEx : List Value → Bool
  | .ref _ :: r => refsEx r
  | l => l == exTail
theorem refsEx_two : ∀ l : List Value, refsEx l = true → (∃ c r, l = .ref c :: r ∧ refsEx r = true) ∨ l = exTail := fun l e => by
  unfold refsEx at e
  split at e
  · exact .inl ⟨_, _, rfl, e⟩
  · exact .inr (beq_iff_eq.mp e)
theorem refsEx_pass (self : Value) (l : List Value) : refsEx l = true → refuseLoop self "__setattr__" l = pure () := by
  induction l with
  | nil => intro e; exact absurd e (by decide)
  | cons a r ih =>
    intro e
    rcases refsEx_two (a :: r) e with ⟨c, r', q, h⟩ | q
    · injection q with q1 q2
      subst q1 q2
      rw [refuseLoop_ref]
      exact ih h
    · rw [q]
      exact F.store_Exception.passes self
theorem refsEx_has (X : String) (l : List Value) : refsEx l = true → l.contains (.type X) = exTail.contains (.type X) := by
  induction l with
  | nil => intro e; exact absurd e (by decide)
  | cons a r ih =>
    intro e
    rcases refsEx_two (a :: r) e with ⟨c, r', q, h⟩ | q
    · injection q with q1 q2
      subst q1 q2
      rw [List.contains_cons, ih h]
      rfl
    · rw [q]
theorem refsEx_some {l : List Value} (e : refsEx l = true) : l.isEmpty = false := by
  cases l with
  | nil => exact absurd e (by decide)
  | cons _ _ => rfl
section
open Builtin Builtin.ObjectAttr
variable {prog : Program} {w : World} {A : Around} {R : Result → Shared → Prop} {hp : Heap} {g : Array GenState} {d : Drawn} {t : Nat} {os : OsState}
/-- self.name = v on such an error that has no dict yet -/
theorem put_first {K : Frag} {name : Str} {tk : Tok} {v : Value} {x C : Addr} {fv : Array Value} {cd : ClassData}
    (X : K.In hp) (hx : hp.get? x = some { cls := .ref C, data := .fields fv }) (hcd : clsIn K C = some cd) (hm : refsEx cd.mro = true) (hh : cd.hasDict = true) (ha : findIn K (.ref C) name = some none)
    (want : ∀ h' tk' dx, (∀ b o, b ≠ x → hp.get? b = some o → h'.get? b = some o) → hp.objs.size ≤ dx → dx ≠ x → h'.get? x = some { cls := .ref C, dict := some dx, data := .fields fv } → h'.Ns1 dx (fun y => if y = name then some v else none) → R (.ok (.ret .none)) ⟨h', g, d, tk', os⟩) :
    codeAny (model prog w) A (.call (.builtin "object.__setattr__") ⟨[.ref x, .str name tk, v], []⟩) R ⟨hp, g, d, t, os⟩ := by
  have inst : InstAt hp x { cls := .ref C, data := .fields fv } C none := ⟨hx, rfl, rfl, trivial⟩
  have S0 := F.store_object
  have some_ := refsEx_some hm
  have obj : cd.mro.contains (.type "object") = true := (refsEx_has "object" _ hm).trans (by decide +kernel)
  have apart : x ≠ hp.objs.size := Nat.ne_of_lt (Heap.lt_size hx)
  have isObj : Looks (model prog w) hp (isInstance (.ref x) (.type "object")) true := inst.type.andThen (looks_mroIn X (by unfold mroIn; rw [hcd, Option.bind_some, if_neg (by rw [some_]; decide), obj]))
  refine codeAny_call_builtin S0.slot.plain S0.entry (@check_slot (model prog w) _ _ ⟨hp, g, d, t, os⟩ "object.__setattr__" "object" "__setattr__" (.ref x) [.str name tk, v] [] _ S0.kind S0.split isObj (S0.args (.ref x) (.str name tk) v) ?_)
  have mro_ : Looks (model prog w) hp (mroOf (.ref C)) cd.mro := (looks_clsIn X hcd).andThen .now
  have none_ : Looks (model prog w) hp (storeTaker? none) none := .now
  have data_ : Looks (model prog w) hp (classData C) cd := looks_clsIn X hcd
  rw [osa_eq, refuse_eq]
  refine wpAny_bind (wpAny_bind (inst.type.at (wpAny_bind (mro_.at ?_))))
  rw [refsEx_pass _ _ hm]
  refine wpAny_pure (wpAny_bind (inst.type.at (wpAny_bind ((looks_findIn X ha).at (wpAny_bind (none_.at ?_))))))
  show wpAny _ _ (storeInOwnDict (.ref x) (.ref C) (.str name tk) name v false) _ _ _
  obtain ⟨nm, bs, mro, ns, qn, hd, sn, sb, ab, col, del⟩ := cd
  dsimp only at hh
  subst hh
  unfold storeInOwnDict ownDictForStores
  repeat (first | with_reducible refine store_in_new ?_ ?_ | with_reducible refine wpAny_loadPart_at hx ?_ | with_reducible refine data_.at ?_ | wp_step)
  · exact ⟨_, #[], _, (Heap.get?_update_ne _ _ _ _ apart.symm).trans (Heap.get?_push_at rfl rfl), rfl, fun e he => absurd he (by simp), fun _ => rfl⟩
  · intro h' tk' hn' hs
    have keep1 : (hp.push { cls := .type "dict", data := .dict #[] }).get? x = some { cls := .ref C, data := .fields fv } := Heap.get?_push_of_some _ hx
    refine want h' tk' hp.objs.size (fun b o hb ho => ?_) (Nat.le_refl _) apart.symm ?_ hn'
    · exact (hs.2 b (Nat.ne_of_lt (Heap.lt_size ho))).trans ((Heap.get?_update_ne _ _ _ _ hb).trans (Heap.get?_push_of_some _ ho))
    · exact (hs.2 x apart).trans (Heap.get?_update_self _ keep1 rfl)
end
theorem ld_own {M : Model} {s : Shared} {name : Str} {scope : Scope} {L a : Addr} {cd : Value} {m : Str → Option Value} {x : Str} {pos : Pos} {v : Value} {Q : Value → Shared → Prop} {A : Around} {E : Value → Shared → Prop} (hn : s.heap.Ns L m) (hv : m x = some v) (h : Q v s)
    (hk : scope.kind = .function := by rfl) (hl : (envOfC name scope L a cd).kindOf x = some .local := by rfl) (hd : (x == ("__debug__" : Str)) = false := by decide) :
    wpAny M A (eval (.Name x pos) (envOfC name scope L a cd)) Q E s := wpAny_Name (wpAny_loadName_local hk hl hn hv h) hd
/-- what __init__ leaves of a fresh error at x -/
structure InitDone (h h' : Heap) (x C dx t1 : Addr) (f : Str) (v : Value) : Prop where
  keep : ∀ b o, b ≠ x → h.get? b = some o → h'.get? b = some o
  obj : h'.get? x = some { cls := .ref C, dict := some dx, data := .fields #[.ref t1, .none, .none, .none, .bool false, .none] }
  dbig : h.objs.size ≤ dx
  dne : dx ≠ x
  ns : h'.Ns1 dx (fun y => if y = f then some v else none)
/-- a made error -/
structure MadeIs (h h' : Heap) (e C d : Addr) (f : Str) (v : Value) : Prop where
  keep : ∀ b o, h.get? b = some o → h'.get? b = some o
  new : h.objs.size ≤ e
  obj : ∃ oe vs, h'.get? e = some oe ∧ oe.cls = .ref C ∧ oe.dict = some d ∧ oe.data = .fields vs ∧ vs[1]? = some .none
  dbig : h.objs.size ≤ d
  dne : d ≠ e
  ns : h'.Ns1 d (fun y => if y = f then some v else none)
theorem sz1 (v : Value) : [v].length ≤ sizeLine := by
  rw [sizeLine_eq]
  exact (by decide : 1 ≤ 16777216)
/-- what the written part says of the class at C: its errors keep one argument under the name f -/
structure ErrC (K : Frag) (C : Addr) (f : Str) : Prop where

  cls : ∃ nm q N bs bm sn sub ab col dd k0 k1 k2 k3 k5, K.lookup C = some (excClassObj nm q C N bs bm true sn sub ab col dd k0 k1 k2 k3 k5 "Exception.__new__") ∧ refsEx bm = true
  sa : findIn K (.ref C) "__setattr__" = some (some (.builtin "object.__setattr__"))
  ga : findIn K (.ref C) "__getattribute__" = some (some (.builtin "BaseException.__getattribute__"))
  gg : findIn K (.ref C) "__getattr__" = some none
  noN : findIn K (.ref C) f = some none
  kC : keepIn K (.ref C) = true
  exC : subIn K (.ref C) (.type "BaseException") = some true
  tyC : typeIn K (.ref C) = some (.type "type")
  hdC : hasDictIn K C = true
  /-- its __init__ runs -/
  ini : ∃ fI, findIn K (.ref C) "__init__" = some (some (.ref fI)) ∧ typeIn K (.ref fI) = some (.type "function") ∧
    ∀ (prog : Program) (w : World) (A : Around) (R : Result → Shared → Prop) (s : Shared) (x t0 : Addr) (v : Value), K.In s.heap → s.heap.NoLimit → s.heap.get? x = some (excO C t0) → K.lookup x = none → A.depth < recursionLimit →
      (∀ h' tk dx, InitDone s.heap h' x C dx t0 f v → R (.ok (.ret .none)) { s with heap := h', toks := tk }) → codeAny (model prog w) A (.call (.ref fI) ⟨[.ref x, v], []⟩) R s

def iA_at (p1 p2 : Pos) : Arguments := { posonlyargs := [], args := [{ arg := "self", annotation := none, pos := p1 }, { arg := "at", annotation := none, pos := p2 }], vararg := none, kwonlyargs := [], kw_defaults := [], kwarg := none, defaults := [] }
def iB_at (q1 q2 q3 q4 : Pos) : List Stmt := [.Assign [.Attribute (.Name "self" q1) "at" q2] (.Name "at" q3) q4]
def iS_at : Scope := { kind := .function, names := [(PySem.Str.ofString "self", .local), (PySem.Str.ofString "at", .local)], isGenerator := false, isCoroutine := false, more := [] }
theorem ini_at {K : Frag} {C fI : Addr} {qual : Str} {oc doc pm cdv ct : Value} {od an : Option Addr} {osl : Array (Option Value)} {p1 p2 q1 q2 q3 q4 : Pos}
    (fn : K.lookup fI = some ⟨oc, od, .func (fnOf "__init__" qual (iA_at p1 p2) (iB_at q1 q2 q3 q4) iS_at .none .none doc pm an cdv ct), osl⟩) (hcd : codeIn K cdv qual = true)
    (cls : ∃ nm q N bs bm sn sub ab col dd k0 k1 k2 k3 k5, K.lookup C = some (excClassObj nm q C N bs bm true sn sub ab col dd k0 k1 k2 k3 k5 "Exception.__new__") ∧ refsEx bm = true)
    (sa : findIn K (.ref C) "__setattr__" = some (some (.builtin "object.__setattr__"))) (noN : findIn K (.ref C) "at" = some none)
    {prog : Program} {w : World} {A : Around} {R : Result → Shared → Prop} {s : Shared} {x t0 : Addr} {v : Value} (X : K.In s.heap) (hlim : s.heap.NoLimit) (hx : s.heap.get? x = some (excO C t0)) (hnx : K.lookup x = none) (room : A.depth < recursionLimit)
    (want : ∀ h' tk dx, InitDone s.heap h' x C dx t0 "at" v → R (.ok (.ret .none)) { s with heap := h', toks := tk }) :
    codeAny (model prog w) A (.call (.ref fI) ⟨[.ref x, v], []⟩) R s := by
  obtain ⟨nm, q, N, bs, bm, sn, sub, ab, col, dd, k0, k1, k2, k3, k5, hC, hbm⟩ := cls
  have hcl : clsIn K C = some { name := nm, bases := bs, mro := .ref C :: bm, ns := N, qualname := q, hasDict := true, slotNames := sn, subclasses := sub, abstract := ab, collection := col, hasDel := false } := by
    unfold clsIn
    rw [hC]
    all_goals rfl
  refine Att.call_fn (binds := [("self", .ref x), ("at", v)]) X hlim fn hcd room (BindsTo.of_eq (by first | rfl | with_unfolding_all rfl)) (by first | rfl | decide | with_unfolding_all rfl) (fun s₁ IC => ?_) rfl rfl rfl
  obtain ⟨h₁, tk₁, rfl⟩ := IC.toInCall.same
  have k : ∀ b o, s.heap.get? b = some o → h₁.get? b = some o := IC.toInCall.keep
  have hn := IC.toInCall.ns
  have X₁ : K.In h₁ := X.keeps k
  have hx₁ := k _ _ hx
  show wpAny _ _ (execs _ _) _ _ _
  refine wpAny_execs_cons (plainObj_wpAny_Assign_Attribute ?_)
  refine ld_own (v := v) hn (by first | rfl | with_unfolding_all rfl | kernel_rfl) (ld_own (v := .ref x) hn (by first | rfl | with_unfolding_all rfl | kernel_rfl) ?_)
  refine set_plain X₁ (ox := excO C t0) (od := none) ⟨hx₁, rfl, rfl, trivial⟩ sa ?_
  refine put_first X₁ hx₁ hcl (show refsEx (.ref C :: bm) = true from hbm) rfl noN (fun h₃ tk₃ dx k₃ dn dne hx₃ hn₃ => ?_)
  show wpAny _ _ (execs _ _) _ _ _
  have z : s.heap.objs.size < h₁.objs.size := hn.lt
  exact wpAny_execs_nil (want h₃ tk₃ dx ⟨fun b o hb e => k₃ b o hb (k b o e), hx₃, Nat.le_of_lt (Nat.lt_of_lt_of_le z dn), dne, hn₃⟩)

def iA_word (p1 p2 : Pos) : Arguments := { posonlyargs := [], args := [{ arg := "self", annotation := none, pos := p1 }, { arg := "word", annotation := none, pos := p2 }], vararg := none, kwonlyargs := [], kw_defaults := [], kwarg := none, defaults := [] }
def iB_word (q1 q2 q3 q4 : Pos) : List Stmt := [.Assign [.Attribute (.Name "self" q1) "word" q2] (.Name "word" q3) q4]
def iS_word : Scope := { kind := .function, names := [(PySem.Str.ofString "self", .local), (PySem.Str.ofString "word", .local)], isGenerator := false, isCoroutine := false, more := [] }
theorem ini_word {K : Frag} {C fI : Addr} {qual : Str} {oc doc pm cdv ct : Value} {od an : Option Addr} {osl : Array (Option Value)} {p1 p2 q1 q2 q3 q4 : Pos}
    (fn : K.lookup fI = some ⟨oc, od, .func (fnOf "__init__" qual (iA_word p1 p2) (iB_word q1 q2 q3 q4) iS_word .none .none doc pm an cdv ct), osl⟩) (hcd : codeIn K cdv qual = true)
    (cls : ∃ nm q N bs bm sn sub ab col dd k0 k1 k2 k3 k5, K.lookup C = some (excClassObj nm q C N bs bm true sn sub ab col dd k0 k1 k2 k3 k5 "Exception.__new__") ∧ refsEx bm = true)
    (sa : findIn K (.ref C) "__setattr__" = some (some (.builtin "object.__setattr__"))) (noN : findIn K (.ref C) "word" = some none)
    {prog : Program} {w : World} {A : Around} {R : Result → Shared → Prop} {s : Shared} {x t0 : Addr} {v : Value} (X : K.In s.heap) (hlim : s.heap.NoLimit) (hx : s.heap.get? x = some (excO C t0)) (hnx : K.lookup x = none) (room : A.depth < recursionLimit)
    (want : ∀ h' tk dx, InitDone s.heap h' x C dx t0 "word" v → R (.ok (.ret .none)) { s with heap := h', toks := tk }) :
    codeAny (model prog w) A (.call (.ref fI) ⟨[.ref x, v], []⟩) R s := by
  obtain ⟨nm, q, N, bs, bm, sn, sub, ab, col, dd, k0, k1, k2, k3, k5, hC, hbm⟩ := cls
  have hcl : clsIn K C = some { name := nm, bases := bs, mro := .ref C :: bm, ns := N, qualname := q, hasDict := true, slotNames := sn, subclasses := sub, abstract := ab, collection := col, hasDel := false } := by
    unfold clsIn
    rw [hC]
    all_goals rfl
  refine Att.call_fn (binds := [("self", .ref x), ("word", v)]) X hlim fn hcd room (BindsTo.of_eq (by first | rfl | with_unfolding_all rfl)) (by first | rfl | decide | with_unfolding_all rfl) (fun s₁ IC => ?_) rfl rfl rfl
  obtain ⟨h₁, tk₁, rfl⟩ := IC.toInCall.same
  have k : ∀ b o, s.heap.get? b = some o → h₁.get? b = some o := IC.toInCall.keep
  have hn := IC.toInCall.ns
  have X₁ : K.In h₁ := X.keeps k
  have hx₁ := k _ _ hx
  show wpAny _ _ (execs _ _) _ _ _
  refine wpAny_execs_cons (plainObj_wpAny_Assign_Attribute ?_)
  refine ld_own (v := v) hn (by first | rfl | with_unfolding_all rfl | kernel_rfl) (ld_own (v := .ref x) hn (by first | rfl | with_unfolding_all rfl | kernel_rfl) ?_)
  refine set_plain X₁ (ox := excO C t0) (od := none) ⟨hx₁, rfl, rfl, trivial⟩ sa ?_
  refine put_first X₁ hx₁ hcl (show refsEx (.ref C :: bm) = true from hbm) rfl noN (fun h₃ tk₃ dx k₃ dn dne hx₃ hn₃ => ?_)
  show wpAny _ _ (execs _ _) _ _ _
  have z : s.heap.objs.size < h₁.objs.size := hn.lt
  exact wpAny_execs_nil (want h₃ tk₃ dx ⟨fun b o hb e => k₃ b o hb (k b o e), hx₃, Nat.le_of_lt (Nat.lt_of_lt_of_le z dn), dne, hn₃⟩)

section
variable {prog : Program} {w : World} {A : Around} {R : Result → Shared → Prop} {s : Shared} {K : Frag} {C : Addr} {f : Str}
theorem made_err (T : ErrC K C f) {v : Value} (X : K.In s.heap) (hlim : s.heap.NoLimit) (room : A.depth + 1 < recursionLimit)
    (want : ∀ h' tk e d, MadeIs s.heap h' e C d f v → R (.ok (.ret (.ref e))) { s with heap := h', toks := tk }) :
    codeAny (model prog w) A (.call (.ref C) ⟨[v], []⟩) R s := by
  obtain ⟨nm, q, N, bs, bm, sn, sub, ab, col, dd, k0, k1, k2, k3, k5, hC, hbm⟩ := T.cls
  obtain ⟨fI, iC, tI, run⟩ := T.ini
  obtain ⟨hp, g, dr, tk, os⟩ := s
  have k : ∀ b o, hp.get? b = some o → ((hp.push (kdv_tup [v])).push (excO C hp.objs.size)).get? b = some o := fun b o e => Heap.get?_push_of_some _ (Heap.get?_push_of_some _ e)
  have hget : ((hp.push (kdv_tup [v])).push (excO C hp.objs.size)).get? (hp.objs.size + 1) = some (excO C hp.objs.size) := by heap_get
  have fresh : K.lookup (hp.objs.size + 1) = none := by
    cases e : K.lookup (hp.objs.size + 1) with
    | none => rfl
    | some o => exact absurd (Nat.lt_of_succ_lt (Heap.lt_size (X _ _ e))) (Nat.lt_irrefl _)
  refine call_own F.excBase_Exception (fun X => refsEx_has X bm hbm) (X _ _ hC) (looks_findIn X iC) (fun self => bind_fn X self tI) (sz1 v) ?_
  refine run prog w _ _ ⟨(hp.push (kdv_tup [v])).push (excO C hp.objs.size), g, dr, tk, os⟩ _ _ v (X.keeps k) (hlim.keeps k) hget fresh room fun h' tk' dx ⟨k', hx, dn, dne, hns⟩ => ?_
  have old : ∀ b o, hp.get? b = some o → h'.get? b = some o := fun b o e => k' b o (Nat.ne_of_lt (Nat.lt_succ_of_lt (Heap.lt_size e))) (k b o e)
  have z : hp.objs.size + 1 + 1 ≤ dx := by
    have q := dn
    simp only [Heap.size_push] at q
    exact q
  exact ⟨rfl, want h' tk' (hp.objs.size + 1) dx ⟨old, Nat.le_succ _, ⟨_, _, hx, rfl, rfl, rfl, rfl⟩, Nat.le_trans (Nat.le_trans (Nat.le_succ _) (Nat.le_succ _)) z, dne, hns⟩⟩
end
end ErrX
end PySem
namespace L2
open PySem PySem.Spec PyProof.Rows
theorem relO_one {v : V} {v' : Value} {g : Str} (r : RelV v v') (f : Str) : RelO (List.lookup f [(g, v)]) (if f = g then some v' else none) := by
  by_cases hw : f = g
  · subst hw
    rw [if_pos rfl]
    have q : List.lookup f [(f, v)] = some v := by simp [List.lookup]
    rw [q]
    exact r
  · rw [if_neg hw]
    have qw : (f == g) = false := by simpa using hw
    have q2 : List.lookup f [(g, v)] = none := by simp [List.lookup, qw]
    rw [q2]
    trivial
section
variable {X : Cx} {C : Addr} {f : Str}
/-- C(e), an error in the making -/
def tMkErr (C : Addr) (f : Str) (ta : TA) : L2.St → Hp → XK → Prop := fun σ H Q => ta σ H fun vs H1 => ∃ v, vs = [v] ∧ ∀ d, H1 d = none → Q (.ref C) (some d) (upd H1 d (.xd [(f, v)]))
theorem pmk_err {x : Str} {a : Expr} {ta : TA} {p pos : Pos} {k : Nat} (T : PySem.ErrX.ErrC X.K C f) (hm : X.mg x = some (.ref C)) (hr : Room k X.A) (ha : PA X [a] ta) (hg : Gl X x) (hdb : (x == ("__debug__" : Str)) = false := by decide)
    (he : starEach (a :: []) X.env = (false, eval a X.env) :: starEach [] X.env := by rfl) (hpl : (backTo pos (starEach [] X.env)).any (·.1) = false := by rfl) :
    PMk X (.Call (.Name x p) [a] [] pos) (tMkErr C f ta) := by
  intro pins s σ H Q I h
  refine wpAny_Call_Name_kw (ld_glob I hg hm ?_ hdb)
  refine PySem.W.callWith_K (h₀ := X.base) I.ok.mod.kin T.kC (thn (ha.run pos pins s σ H _ I h) fun us s1 hh => ?_) he hpl
  obtain ⟨vs, H1, I1, r1, v, ev, q1⟩ := hh
  subst ev
  refine ⟨I1.kIn, ?_⟩
  cases r1 with
  | cons rv rn =>
    rename_i v' us'
    cases rn
    show wpAny _ _ (call (.ref C) [v']) _ _ _
    have hlim := I1.nolimit
    obtain ⟨hp, g, dr, tk, os⟩ := s1
    refine wpAny_call (PySem.ErrX.made_err T I1.kIn hlim (by have := hr.dp; omega) fun h' tk' e d M => ?_)
    show MkP X pins σ Q (.ref e) ⟨h', g, dr, tk', os⟩
    obtain ⟨oe, fv, hoe, hc, hd, hdat, h1⟩ := M.obj
    have hns := M.ns
    obtain ⟨G', g1, g2⟩ := restrict h' fun b => decide (b ≠ e)
    have gk : ∀ b, b ≠ e → G'.get? b = h'.get? b := fun b hb => g1 b (decide_eq_true hb)
    have ge : G'.get? e = none := g2 e (by simp)
    have old : ∀ b o, hp.get? b = some o → G'.get? b = some o := fun b o q => (gk b (Nat.ne_of_lt (Nat.lt_of_lt_of_le (Heap.lt_size q) M.new))).trans (M.keep b o q)
    have ob : ObjOk X.prog X.w (upd H1 d (.xd [(f, v)])) G' d (.xd [(f, v)]) := ⟨_, hns.at (fun o q => (gk d M.dne).trans q), fun f => relO_one rv f⟩
    have J : Inv X pins σ (upd H1 d (.xd [(f, v)])) ⟨G', g, dr, tk', os⟩ := I1.laid (t' := tk') old M.dbig ob
    refine ⟨e, oe, fv, ⟨G', g, dr, tk', os⟩, _, .ref C, some d, rfl, J, fun b o q => ?_, ge, hoe, ⟨hc, hd⟩, hdat, h1, ?_, rfl, I1.bare, raises_own T.exC T.tyC, q1 d (I1.hok.fresh M.dbig)⟩
    · by_cases hb : b = e
      · have q' : G'.get? b = some o := q
        rw [hb, ge] at q'; cases q'
      · exact (gk b hb).symm.trans q
    · rw [upd_ne (Ne.symm M.dne)]
      exact I1.hok.fresh M.new
/-- e.f, e the error that the suite holds (at a; its class cls, its dict d) -/
def tErrF (C : Addr) (f : Str) (a : Addr) (cls : Value) (d : Option Addr) (te : TE) : TE := fun σ H Q => te σ H fun x H1 => x = .ref a ∧ cls = .ref C ∧ ∃ (dd : Addr) (v : V), d = some dd ∧ H1 dd = some (.xd [(f, v)]) ∧ Q v H1
theorem pe_errF {a : Addr} {oe : Obj} {cls : Value} {d : Option Addr} {pn : List (Addr × Obj)} {e : Expr} {te : TE} {pos : Pos} (T : PySem.ErrX.ErrC X.K C f) (hz : Zc cls d oe) (hf : ∃ vs, oe.data = .fields vs) (he : PE (X.suite a ((a, oe) :: pn)) e te)
    (hb : attributeBase e f X.env (eval e X.env) = eval e X.env := by rfl) :
    PE (X.suite a ((a, oe) :: pn)) (.Attribute e f pos) (tErrF C f a cls d te) := by
  refine ⟨fun pins s σ H Q I h => ?_⟩
  refine attr_of hb (thn (he.run pins s σ H _ I h) fun u s1 hh => ?_)
  obtain ⟨x, H1, I1, rx, ex, ec, dd, v, ed, ea, q⟩ := hh
  subst ex
  obtain rfl : u = Value.ref a := rx
  subst ec
  subst ed
  obtain ⟨ha, _⟩ := I1.pin (a, oe) (List.mem_append_left _ List.mem_cons_self)
  obtain ⟨vs, hd⟩ := hf
  have hx : ObjOk X.prog X.w H1 s1.heap dd (.xd [(f, v)]) := I1.hok dd _ ea
  obtain ⟨mA, hns, hr⟩ := hx
  obtain ⟨od, ho, hl⟩ := lookIn_ns hns
  have l : List.lookup f [(f, v)] = some v := by simp [List.lookup]
  obtain ⟨u, hu, ru⟩ := RelO.some_of (v := v) (o := mA f) (by rw [← l]; exact hr f)
  have J : PySem.W.InstAt s1.heap a oe C (some od) := ⟨ha, hz.1, by unfold PySem.W.notCls; rw [hd] <;> rfl, by rw [hz.2]; exact ho⟩
  exact HandSPX.exc_get I1.kIn J T.ga T.gg T.exC (PySem.W.findObj_own T.hdC T.noN rfl (by rw [hl, hu])) (handed_of ru) ⟨v, H1, I1.tok _, ru, q⟩
end
end L2
namespace RB
open PySem PySem.Spec PyProof.Rows L2
section
variable {X : Cx} {Γ : Gm} {Wx : WX} {e a : Expr} {es : List Expr} {ea : Ev} {eas : Evs}
def sRaise (c : Nat) (a : Evs) : Sx := fun l st => xs (a l st) l fun ws st1 => match ws with | [w] => .exc c w l st1 | _ => .err
/-- raise C(e) -/
theorem qs_raise {c : Nat} {x : Str} {p pos pos2 : Pos} {k : Nat} (hK : X.K = Γ.K) (hc : X.calm = true) (T : PySem.ErrX.ErrC Γ.K (Γ.ec c) (Γ.fld c)) (hm : X.mg x = some (.ref (Γ.ec c))) (hr : Room k X.A) (tk : Takes X Wx) (hg : Gl X x) (ha : PA X [a] (tA Γ Wx eas))
    (hdb : (x == ("__debug__" : Str)) = false := by decide) (he : starEach (a :: []) X.env = (false, eval a X.env) :: starEach [] X.env := by rfl) (hpl : (backTo pos (starEach [] X.env)).any (·.1) = false := by rfl) : PS X (.Raise (some (.Call (.Name x p) [a] [] pos)) none pos2) (tS Γ Wx (sRaise c eas)) := by
  rw [← hK] at T
  exact PS_imp (ps_raise hc tk (pmk_err T hm hr ha hg hdb he hpl)) fun D σ H ⟨μ, l, st, hs, hl, h⟩ => tG_bindS hs hl h _ fun ws st1 μ1 H1 vs e1 s1 r1 h1 => by
    split at h1
    · rename_i w
      cases r1 with
      | @cons _ vv _ _ r t =>
        cases t
        refine ⟨_, rfl, fun d hd => ?_⟩
        have E : Ext Γ.K μ1 μ1 H1 (upd H1 d (.xd [(Γ.fld c, vv)])) := ext_upd (.inl hd)
        exact h1 _ _ _ _ _ E (s1.other hd) (hl.mono (e1.trans E)) (r.mono E) upd_same
    · exact h1.elim
/-- try: .. except X as n: return g(n.f); is: which of the classes X takes -/
def sTry (is : Nat → Option Bool) (g : W → W) (body : Sx) : Sx := fun l st => match body l st with
  | .exc c p l1 st1 => match is c with | some true => .rt (g p) st1 | some false => .exc c p l1 st1 | none => .err
  | r => r
/-- a suite that hands back what it makes of the error's field -/
def SuiteG (Γ : Gm) (X : Cx) (i : Nat) (f : Str) (g : W → W) (suite : List Stmt) : Prop := ∀ (k : Nat), Γ.fld k = f → PySem.ErrX.ErrC Γ.K (Γ.ec k) f → ∀ (a : Addr) (oe : Obj) (cls : Value) (d : Option Addr) (pn : List (Addr × Obj)), Zc cls d oe → (∃ vs, oe.data = .fields vs) →
  PSs (X.suite a ((a, oe) :: pn)) suite (fun D σ H => σ[i]? = some (some (.ref a)) ∧ cls = .ref (Γ.ec k) ∧ ∃ dd v μ st p, d = some dd ∧ H dd = some (.xd [(f, v)]) ∧ Sim Γ μ st H ∧ Rep Γ.K μ H p v ∧ ∀ μ' H' u, Ext Γ.K μ μ' H H' → Sim Γ μ' st H' → Rep Γ.K μ' H' (g p) u → D.rt u H')
theorem suite_field {n : Str} {i : Nat} {f : Str} {p1 p2 p3 : Pos} (hK : X.K = Γ.K) (hN : X.N[i]? = some n := by rfl) (hv : Vis X.env.scope n := by first | exact Or.inl rfl | exact Or.inr (Or.inl rfl) | exact Or.inr (Or.inr rfl)) (hd : (n == ("__debug__" : Str)) = false := by decide)
    (hcd : (n == ("__classdict__" : Str)) = false := by decide) : SuiteG Γ X i f (fun p => p) [.Return (some (.Attribute (.Name n p1) f p2)) p3] := fun k hk T a oe cls d pn hz hf => by
  rw [← hK] at T
  refine PSs_imp (pss_one (ps_ret (pe_errF T hz hf (pe_var (X := X.suite a ((a, oe) :: pn)) (i := i) hN hv hd hcd)))) fun D σ H ⟨h1, h2, dd, v, μ, st, p, h3, h4, h5, h6, h7⟩ => ?_
  exact ⟨_, h1, rfl, h2, dd, v, h3, h4, h7 _ _ _ .refl h5 h6⟩
theorem suite_pair {n : Str} {i : Nat} {f z : Str} {j j2 : Nat} {p0 p1 p2 p3 p4 : Pos} (hK : X.K = Γ.K) (hN : X.N[i]? = some n := by rfl) (hv : Vis X.env.scope n := by first | exact Or.inl rfl | exact Or.inr (Or.inl rfl) | exact Or.inr (Or.inr rfl)) (hd : (n == ("__debug__" : Str)) = false := by decide)
    (hcd : (n == ("__classdict__" : Str)) = false := by decide) : SuiteG Γ X i f (fun p => .tup [.str z, p]) [.Return (some (.Tuple [.Constant (.str z) j p0, .Attribute (.Name n p1) f p2] j2 p4)) p3] := fun k hk T a oe cls d pn hz hf => by
  rw [← hK] at T
  refine PSs_imp (pss_one (ps_ret (pe_tup (pa_cons pe_str (pa_cons (pe_errF T hz hf (pe_var (X := X.suite a ((a, oe) :: pn)) (i := i) hN hv hd hcd)) pa_nil))))) fun D σ H ⟨h1, h2, dd, v, μ, st, p, h3, h4, h5, h6, h7⟩ => ?_
  refine ⟨_, h1, rfl, h2, dd, v, h3, h4, le1000 (by simp), fun q hq => ?_⟩
  have E : Ext Γ.K μ μ H (upd H q (.tup [.str z, v])) := ext_upd (.inl hq)
  exact h7 _ _ _ E (h5.other hq) (.tup (.inl (.inl upd_same)) (.cons (.str z) (.cons (h6.mono E) .nil)))
theorem qs_try1 {x n f : Str} {c : Value} {i : Nat} {body suite : List Stmt} {b₀ : Stmt} {np pos pos' : Pos} {sx : Sx} {is : Nat → Option Bool} {g : W → W} (hK : X.K = Γ.K) (hs : X.stack = X.env :: X.outer) (hf : X.env.frame = some X.env.locals) (hN : X.N.Nodup) (hi : X.N[i]? = some n) (hln : X.env.kindOf n = some .local) (hc : Names X x c) (tk : Takes X Wx)
    (his : ∀ k b, is k = some b → PySem.W.exmOne Γ.K (.ref (Γ.ec k)) c = some b) (hT : ∀ k, is k = some true → Γ.fld k = f ∧ PySem.ErrX.ErrC Γ.K (Γ.ec k) f) (hsu : SuiteG Γ X i f g (b₀ :: suite))
    (hlen : ∀ l st c p l1 st1, sx l st = .exc c p l1 st1 → l.length = X.N.length → i < l1.length)
    (hb : ∀ (W : WX) (pn : List (Addr × Obj)) (xe : Value → Shared → Prop), Takes (X.tr pn xe) W → PassesOwn (model X.prog X.w) X.A X.env xe → PSs (X.tr pn xe) body (tS Γ W sx)) :
    PS X (.Try body [.ExceptHandler (some (.Name x np)) (some n) (b₀ :: suite) pos'] [] [] pos) (fun D σ H => σ.length = X.N.length ∧ tS Γ Wx (sTry is g sx) D σ H) := by
  refine PS_imp (ps_try_as (Wout := Wx) (ts := fun a cls d D σ H => ∃ k, Γ.fld k = f ∧ PySem.ErrX.ErrC Γ.K (Γ.ec k) f ∧ σ[i]? = some (some (.ref a)) ∧ cls = .ref (Γ.ec k) ∧ ∃ dd v μ st p, d = some dd ∧ H dd = some (.xd [(f, v)]) ∧ Sim Γ μ st H ∧ Rep Γ.K μ H p v ∧ ∀ μ' H' u, Ext Γ.K μ μ' H H' → Sim Γ μ' st H' → Rep Γ.K μ' H' (g p) u → D.rt u H') hs hf hN hi hln hc tk hb (fun a oe cls d pn hz hff => ?_)) fun D σ H ⟨hsl, μ, l, st, hs, hl, h⟩ => ?_
  · refine ⟨fun pins s σ H D I ⟨k, h1, h2, h3⟩ => (hsu k h1 h2 a oe cls d pn hz hff).run pins s σ H D I h3⟩
  · refine ⟨μ, l, st, hs, hl, ?_⟩
    unfold sTry at h
    cases e : sx l st with
    | nx l1 st1 => rw [e] at h; exact h
    | rt w st1 => rw [e] at h; exact h
    | bk l1 st1 => rw [e] at h; exact h
    | ct l1 st1 => rw [e] at h; exact h
    | err => rw [e] at h; exact h
    | exc k p l1 st1 =>
      rw [e] at h
      intro μ1 H1 σ1 d v e1 s1 lr1 r1 q1
      dsimp only at h
      cases ek : is k with
      | none => rw [ek] at h; exact h.elim
      | some b =>
        rw [ek] at h
        refine ⟨b, by rw [hK]; exact his k b ek, fun hb a ha => ?_, fun hb => ?_⟩
        · subst hb
          obtain ⟨t1, t2⟩ := hT k ek
          have hlt : i < σ1.length := by rw [← lr1.1]; exact hlen l st k p l1 st1 e (by rw [hl.1, hsl])
          exact ⟨k, t1, t2, by rw [List.getElem?_set_self hlt], rfl, d, v, μ1, st1, p, rfl, by rw [← t1]; exact q1, s1, r1, fun μ2 H2 u e2 s2 r2 => h μ2 H2 u (e1.trans e2) s2 r2⟩
        · subst hb
          exact h μ1 H1 σ1 d v e1 s1 lr1 r1 q1
end
end RB

set_option Elab.async false
set_option linter.all false
set_option maxRecDepth 100000
set_option maxHeartbeats 4000000
namespace RB
open PySem PySem.Spec PyProof.Rows L2

def wPow (x y : W) (st : Sto) : Res W := match x, y with | .int a, .int b => if (decide (0 ≤ b) && decide (b ≤ 1000) && decide (a.natAbs < 2 ^ 60)) = true then .ok (.int (a ^ b.toNat)) st else .err | _, _ => .err
def wNeg (x : W) (st : Sto) : Res W := match x with | .int a => .ok (.int (-a)) st | _ => .err
def wMul (x y : W) (st : Sto) : Res W := match x, y with
  | .int a, .int b => if mulOk a b = true then .ok (.int (a * b)) st else .err
  | .tup ws, .int k => if (!ws.isEmpty && decide (2 ≤ k) && decide (k ≤ 1000) && decide (ws.length ≤ 1000)) = true then .ok (.tup (List.replicate k.toNat ws).flatten) st else if (!ws.isEmpty && k == 1) = true then .ok (.tup ws) st else .err
  | _, _ => .err
section
variable {X : Cx} {Γ : Gm} {Wx : WX} {e a b o tg iter elt : Expr} {es : List Expr} {ea eb eo : Ev} {eas : Evs}
theorem ok_pow : OpOk Γ (rI CPow fun i j => .int (i ^ j.toNat)) wPow := ok_int (fun _ _ _ _ _ => .int _) (fun i j st => by
  by_cases h : (decide (0 ≤ j) && decide (j ≤ 1000) && decide (i.natAbs < 2 ^ 60)) = true
  · refine .inl ⟨if_pos h, ?_⟩
    simp only [Bool.and_eq_true, decide_eq_true_eq] at h
    have h3 : i.natAbs < 2 ^ 64 := Nat.lt_trans h.2 (by decide)
    exact ⟨h.1.1, by omega, h3⟩
  · exact .inr (if_neg h)) (by intro x y st; cases x <;> cases y <;> first | exact .inr rfl | exact .inl ⟨_, _, rfl, rfl⟩)
theorem qe_neg {pos : Pos} (ha : PE X a (tE Γ Wx ea)) : PE X (.UnaryOp .USub a pos) (tE Γ Wx (eU wNeg ea)) :=
  PE_imp (pe_un un_neg ha) fun σ H Q ⟨μ, l, st, hs, hl, h⟩ => tG_bind hs hl h _ fun w st1 μ1 H1 v e1 s1 r1 h1 => by
    cases w with
    | int i => cases r1; exact ⟨i, rfl, h1.here s1 (.int _)⟩
    | _ => exact h1.elim
/-- t * 1 is t -/
theorem int_rmul_tup1 (x : Int) (u : Tok) (l : Addr) (items : Array Value) (n : Nat) (dd : Option Addr) (sl : Array (Option Value)) (hx : x = 1) :
    Meets (Builtin.«tuple.__mul__» ⟨[.ref l, .int x u], []⟩) (fun _ R s => s.heap.get? l = some { cls := .type "tuple", dict := dd, data := .seq items n, slots := sl } ∧ R (.ok (.ret (Value.ref l))) s) :=
  .of_wp fun prog w A R s h => by
    obtain ⟨hp, g, d, tk, os⟩ := s
    obtain ⟨hl, h⟩ := h
    subst hx
    have f1 := AutoSeq1.idx_int
    wp_walk using AutoSeq1.wpAny_loadPart' hl
    exact ⟨_, rfl, h⟩
/-- t * 1 -/
def rOne (K : PySem.W.Frag) : R2 := fun x y H Q => ∃ l xs, x = .ref l ∧ y = .int 1 ∧ SqT K H l xs ∧ Q (.ref l) H
theorem op_one : OpR X (binaryOp .Mult) (rOne X.K) := by
  intro ps st σ H x y v u Q I rx ry want
  obtain ⟨l, xs, rfl, rfl, hT, q⟩ := want
  cases rx
  obtain ⟨t, rfl⟩ := ry
  obtain ⟨its, r, ⟨⟨cls, dd, data, sl⟩, ho, hc, n, hd⟩, _⟩ := I.tuple hT
  simp only at hc hd
  subst hc hd
  exact wpAny_binaryOp_repeat_ref (T := "tuple") (U := "int") (by decide) ⟨_, ho, rfl⟩ (fun s' => typeIs_int s' 1 t) noFill_tuple_mul F.fills_int_mul F.slot_int_rmul repeat_tuple F.slot_int_index.lookup
    (call_meets F.slot_int_rmul (typeIs_int st 1 t) F.entry_int_rmul (F.args_int_rmul_2 _ _) (int_rmul_tuple 1 t l its.toArray n dd sl)
      ⟨ho, rfl, ⟨_, ho, rfl⟩, call_meets F.slot_tuple_mul ⟨_, ho, rfl⟩ F.entry_tuple_mul (F.args_tuple_mul_2 _ _) (int_rmul_tup1 1 t l its.toArray n dd sl rfl) ⟨ho, ⟨.ref l, H, I, rfl, q⟩⟩⟩)
abbrev rMulQ (K : PySem.W.Frag) : R2 := fun x y H Q => rI CMulX (fun i j => .int (i * j)) x y H Q ∨ (rRepT K x y H Q ∨ rOne K x y H Q)
theorem op_mulQ : OpR X (binaryOp .Mult) (rMulQ X.K) := .or op_mulX (.or op_repT op_one)
theorem Reps.rep {K : PySem.W.Frag} {μ : List Addr} {H : Hp} {ws : List W} {xs : List V} (r : Reps K μ H ws xs) : ∀ k : Nat, Reps K μ H (List.replicate k ws).flatten (List.replicate k xs).flatten
  | 0 => by simpa using Reps.nil
  | k + 1 => by rw [List.replicate_succ, List.replicate_succ, List.flatten_cons, List.flatten_cons]; exact r.append (Reps.rep r k)
theorem ok_mul (hK : X.K = Γ.K) : OpOk Γ (rMulQ X.K) wMul := fun Wx μ σ H st wx wy x y Q hs rx ry h => by
  rw [hK]
  cases wx with
  | int a =>
    cases wy with
    | int b =>
      simp only [wMul] at h
      split at h
      · rename_i q
        cases rx; cases ry
        exact .inl ⟨a, b, rfl, rfl, mulOk_ok q, h.here hs (.int _)⟩
      · exact h.elim
    | _ => exact h.elim
  | tup ws =>
    cases wy with
    | int k =>
      simp only [wMul] at h
      cases rx with
      | tup q1 q2 =>
        rename_i aa xs
        cases ry
        split at h
        · rename_i q
          simp only [Bool.and_eq_true, decide_eq_true_eq, Bool.not_eq_true'] at q
          refine .inr (.inl ⟨_, k, xs, rfl, rfl, q1, fun e => ?_, q.1.1.2, q.1.2, by rw [← q2.length]; exact q.2, fun p hp => ?_⟩)
          · subst e; cases q2; simp at q
          · have E : Ext Γ.K μ μ H (upd H p (.tup (List.replicate k.toNat xs).flatten)) := ext_upd (.inl hp)
            exact h _ _ _ E (hs.other hp) (.tup (.inl (.inl upd_same)) ((q2.rep _).mono E))
        · split at h
          · rename_i q
            simp only [Bool.and_eq_true, beq_iff_eq] at q
            rw [q.2]
            exact .inr (.inr ⟨_, xs, rfl, rfl, q1, h.here hs (.tup q1 q2)⟩)
          · exact h.elim
    | _ => exact h.elim
  | _ => exact h.elim

theorem q_add {pos : Pos} (hK : X.K = Γ.K) (ha : PE X a (tE Γ Wx ea)) (hb : PE X b (tE Γ Wx eb)) : PE X (.BinOp a .Add b pos) (tE Γ Wx (eBin wAdd ea eb)) := qe_bin op_addQ (ok_add hK) ha hb
theorem q_sub {pos : Pos} (ha : PE X a (tE Γ Wx ea)) (hb : PE X b (tE Γ Wx eb)) : PE X (.BinOp a .Sub b pos) (tE Γ Wx (eBin wSub ea eb)) := qe_bin op_sub ok_sub ha hb
theorem q_mul {pos : Pos} (hK : X.K = Γ.K) (ha : PE X a (tE Γ Wx ea)) (hb : PE X b (tE Γ Wx eb)) : PE X (.BinOp a .Mult b pos) (tE Γ Wx (eBin wMul ea eb)) := qe_bin op_mulQ (ok_mul hK) ha hb
theorem q_div {pos : Pos} (ha : PE X a (tE Γ Wx ea)) (hb : PE X b (tE Γ Wx eb)) : PE X (.BinOp a .FloorDiv b pos) (tE Γ Wx (eBin wDiv ea eb)) := qe_bin op_fdivW ok_div ha hb
theorem q_mod {pos : Pos} (ha : PE X a (tE Γ Wx ea)) (hb : PE X b (tE Γ Wx eb)) : PE X (.BinOp a .Mod b pos) (tE Γ Wx (eBin wMod ea eb)) := qe_bin op_mod ok_mod ha hb
theorem q_pow {pos : Pos} (ha : PE X a (tE Γ Wx ea)) (hb : PE X b (tE Γ Wx eb)) : PE X (.BinOp a .Pow b pos) (tE Γ Wx (eBin wPow ea eb)) := qe_bin op_pow ok_pow ha hb
/-- room for the comparisons -/
theorem un64 {A : Around} {k : Nat} (h : Room k A) : A.units + 64 < cLine := by have := h.un; omega
theorem un65 {A : Around} {k : Nat} (h : Room k A) : A.units + 65 < cLine := by have := h.un; omega
/-- one comparison, run: by the operator (as the printer's words name it) -/
structure CmpQ (X : Cx) (Γ : Gm) (o : CmpOp) (op : W → W → Sto → Res W) : Prop where
  ex : ∃ r, OpR X (compareOp o) r ∧ OpOk Γ r op
theorem c_eq {k : Nat} (hK : X.K = Γ.K) (h : Room k X.A) : CmpQ X Γ .Eq wEq := ⟨_, op_eqD (un64 h), ok_eq hK⟩
theorem c_ne {k : Nat} (hK : X.K = Γ.K) (h : Room k X.A) : CmpQ X Γ .NotEq wNe := ⟨_, op_neD (un64 h), ok_ne hK⟩
theorem c_in {k : Nat} (hK : X.K = Γ.K) (h : Room k X.A) : CmpQ X Γ .In wIn := ⟨_, op_inQ (un65 h), ok_in hK⟩
theorem c_notIn {k : Nat} (hK : X.K = Γ.K) (h : Room k X.A) : CmpQ X Γ .NotIn wNotIn := ⟨_, op_notInQ (un65 h), ok_notIn hK⟩
theorem c_lt : CmpQ X Γ .Lt wLt := ⟨_, op_lt, ok_lt⟩
theorem c_le : CmpQ X Γ .LtE wLe := ⟨_, op_le, ok_le⟩
theorem c_gt : CmpQ X Γ .Gt wGt := ⟨_, op_gt, ok_gt⟩
theorem c_ge : CmpQ X Γ .GtE wGe := ⟨_, op_ge, ok_ge⟩
theorem c_is : CmpQ X Γ .Is wIsN := ⟨_, op_isN, ok_isN⟩
theorem c_isNot : CmpQ X Γ .IsNot wNotN := ⟨_, op_notN, ok_notN⟩
theorem q_cmp {o : CmpOp} {op : W → W → Sto → Res W} {pos : Pos} (c : CmpQ X Γ o op) (ha : PE X a (tE Γ Wx ea)) (hb : PE X b (tE Γ Wx eb)) (hm : behindInMarks o b = false := by rfl) : PE X (.Compare a [o] [b] pos) (tE Γ Wx (eBin op ea eb)) := by
  obtain ⟨r, h1, h2⟩ := c.ex
  exact qe_cmp h1 h2 ha hb hm
theorem t_cmp {o : CmpOp} {op : W → W → Sto → Res W} {pos : Pos} (c : CmpQ X Γ o op) (ha : PE X a (tE Γ Wx ea)) (hb : PE X b (tE Γ Wx eb)) (hm : behindInMarks o b = false := by rfl) : PT X (.Compare a [o] [b] pos) (tT Γ Wx (bVal (eBin op ea eb))) := by
  obtain ⟨r, h1, h2⟩ := c.ex
  exact qt_cmp h1 h2 ha hb hm
theorem q_chain {c : Expr} {ec : Ev} {o o' : CmpOp} {op op' : W → W → Sto → Res W} {pos : Pos} (k : CmpQ X Γ o op) (k' : CmpQ X Γ o' op') (ha : PE X a (tE Γ Wx ea)) (hb : PE X b (tE Γ Wx eb)) (hc : PE X c (tE Γ Wx ec)) (hm : lastMarks [o, o'] [b, c] = false := by rfl) :
    PE X (.Compare a [o, o'] [b, c] pos) (tE Γ Wx (eChain op op' ea eb ec)) := by
  obtain ⟨r, h1, h2⟩ := k.ex
  obtain ⟨r', h1', h2'⟩ := k'.ex
  exact qe_chain h1 h2 h1' h2' ha hb hc hm
theorem t_chain {c : Expr} {ec : Ev} {o o' : CmpOp} {op op' : W → W → Sto → Res W} {pos : Pos} (k : CmpQ X Γ o op) (k' : CmpQ X Γ o' op') (ha : PE X a (tE Γ Wx ea)) (hb : PE X b (tE Γ Wx eb)) (hc : PE X c (tE Γ Wx ec)) (hm : lastMarks [o, o'] [b, c] = false := by rfl) :
    PT X (.Compare a [o, o'] [b, c] pos) (tT Γ Wx (bVal (eChain op op' ea eb ec))) := by
  obtain ⟨r, h1, h2⟩ := k.ex
  obtain ⟨r', h1', h2'⟩ := k'.ex
  exact qt_chain h1 h2 h1' h2' ha hb hc hm
theorem q_gint {x : Str} {i : Int} {pos : Pos} (hg : Gl X x) (hm : ∃ t, X.mg x = some (.int i t)) (hd : (x == ("__debug__" : Str)) = false := by decide) : PE X (.Name x pos) (tE Γ Wx (eLit (.int i))) := by
  obtain ⟨t, hm⟩ := hm
  exact qe_glob (v := .int i) hg hm ⟨t, rfl⟩ (fun _ _ => .int i) hd
/-- a place of a def's statement: its length is kept -/
theorem PS_len {s : Stmt} {t : TS} (h : PS X s (fun D σ H => σ.length = X.N.length ∧ t D σ H)) : PS X s t := ⟨fun pins s σ H D I q => h.run pins s σ H D I ⟨I.len, q⟩⟩
/-- b.f, a property -/
def noX (r : Res W) : Res W := match r with | .ok w st => .ok w st | _ => .err
def eProp (c : Nat) (F : List W → Sto → Res W) (a : Ev) : Ev := fun l st => (a l st).bind fun x st1 => match x with
  | .ref n => match st1.c[n]? with
    | some (.ins k _) => if k = c then noX (F [.ref n] st1) else .err
    | _ => .err
  | _ => .err
structure FnP (Γ : Gm) (P : Program) (w : World) (mg : Str → Option Value) (base : Heap) (k : Nat) (f : Str) (c : Nat) (F : List W → Sto → Res W) : Prop where
  ex : ∃ (p g : Addr) (fd : FuncData) (ps : List Str), FnOk P w Γ.K mg base (L2.CX P w) k g fd ps (spF Γ 1 F) ∧ PropOf Γ.K (Γ.cl c) f p g ∧ L2.Binds Γ.K fd ps []
theorem q_prop {k c : Nat} {f : Str} {F : List W → Sto → Res W} {pos : Pos} (G : FnP Γ X.prog X.w X.mg X.base k f c F) (hK : X.K = Γ.K) (hcl : Cls Γ.K (Γ.cl c)) (hr : Room (k + 1) X.A) (ha : PE X a (tE Γ Wx ea)) (hab : attributeBase a f X.env (eval a X.env) = eval a X.env := by rfl) :
    PE X (.Attribute a f pos) (tE Γ Wx (eProp c F ea)) := by
  obtain ⟨p, g, fd, ps, G1, hp, hb⟩ := G.ex
  rw [← hK] at G1 hp hb hcl
  refine PE_imp (pe_prop (dvs := []) (ds := []) (E := E0) ha hcl hp G1 hr hb .nil passL hab) fun σ H Q ⟨μ, l, st, hs, hl, h⟩ => tG_bind hs hl h _ fun w st1 μ1 H1 v e1 s1 r1 h1 => ?_
  split at h1
  · rename_i n
    split at h1
    · rename_i k2 fs ec
      split at h1
      · rename_i hk2
        subst hk2
        cases r1 with
        | ref hm =>
          obtain ⟨dx, gs, q1, q2⟩ := s1.cell n _ _ ec hm
          refine ⟨_, dx, gs, rfl, q1, μ1, st1, [.ref n], s1, .cons (.ref hm) .nil, rfl, ?_⟩
          generalize F [.ref n] st1 = r at h1 ⊢
          cases r with
          | ok w st2 => exact h1
          | exc c p st2 => exact h1.elim
          | err => exact h1.elim
      · exact h1.elim
    · exact h1.elim
  · exact h1.elim
theorem takesX {CX : CXT} : Takes X W0 := L2.takes0
end
section
variable {P : Program} {w : World} {K : PySem.W.Frag} {mg : Str → Option Value} {base : Heap} {cl ec : Nat → Addr} {fld : Nat → Str}
/-- the rule for a def with defaults -/
theorem q_okD {x qual : Str} {params : Arguments} {body : List Stmt} {scope : Scope} {dvs : List V} {kws : List (Str × V)} {f : Addr} {fd : FuncData} {N ps : List Str} {k np n : Nat} {sx : Sx} (F : L2.FunD K x qual params body scope dvs kws f fd) (S : FnScope N ps scope) (hn : N.length = n) (hp : ps.length = np)
    (hbody : ∀ (cdv : Value) (A : Around) (outer : List Env) (s : Shared) (H : Hp) (E : XK), Room k (A.deeper (envOfC qual scope s.heap.objs.size f cdv)) →
      PSs (cxOf (L2.CX P w) P w K mg base N qual scope f cdv A outer s H E) body (tS ⟨K, cl, ec, fld⟩ (fun cls d _ H => E cls d H) sx)) : FnOk P w K mg base (L2.CX P w) (k + 1) f fd ps (spF ⟨K, cl, ec, fld⟩ np (defn n sx)) := by
  refine F.ok S (fun vs H Q E h => by rw [hp]; exact spF_len h) (fun cdv A outer s H vs Q E hr h => ⟨_, hbody cdv A outer s H E hr, ?_⟩)
  exact body_run (hn := hn) h
theorem fn_err {f : Addr} {fd : FuncData} {ps : List Str} {np k : Nat} (hp : ps.length = np) : FnOk P w K mg base (L2.CX P w) k f fd ps (spF ⟨K, cl, ec, fld⟩ np fun _ _ => .err) :=
  ⟨fun vs H Q E h => by rw [hp]; exact spF_len h, fun A outer s H args us vs Q E hr he hb hv hs => by obtain ⟨_, _, _, _, _, _, h⟩ := hs; exact h.elim⟩
end
end RB

set_option Elab.async false
set_option linter.all false
set_option maxRecDepth 100000
set_option maxHeartbeats 4000000
namespace RB
open PySem PySem.Spec PyProof.Rows L2
/-- tuple(range(n)) -/
def fTupRange (w : W) (st : Sto) : Res W := match w with | .int j => if -1000000 ≤ j ∧ j ≤ 1000000 then .ok (.tup (upFrom 0 j.toNat)) st else .err | _ => .err
section
variable {X : Cx} {Γ : Gm} {Wx : WX} {e a b o tg iter elt : Expr} {es : List Expr} {ea eb eo : Ev} {eas : Evs}
theorem reps_up {K : PySem.W.Frag} {μ : List Addr} {H : Hp} : ∀ (n : Nat) (lo : Int), Reps K μ H (upFrom lo n) ((List.range n).map fun i => V.int (lo + (i : Nat)))
  | 0, lo => .nil
  | n + 1, lo => by
    rw [List.range_succ_eq_map, List.map_cons, List.map_map]
    refine .cons ?_ ?_
    · have : lo + ((0 : Nat) : Int) = lo := by omega
      rw [this]; exact .int _
    · have e : ((fun i : Nat => V.int (lo + (i : Int))) ∘ Nat.succ) = fun i : Nat => V.int ((lo + 1) + (i : Int)) := by
        funext i; simp only [Function.comp]; congr 1; push_cast; omega
      rw [e]
      exact reps_up n (lo + 1)
theorem q_tupRange {p p2 pos q : Pos} (hK : X.K = Γ.K) (hc : X.calm = true) (hg : Gl X "tuple") (hm : X.mg "tuple" = none) (hg2 : Gl X "range") (hm2 : X.mg "range" = none) (ha : PE X a (tE Γ Wx ea)) (na : starEach [a] X.env = (false, eval a X.env) :: starEach [] X.env := by rfl)
    (nb : starEach [.Call (.Name "range" p2) [a] [] q] X.env = (false, eval (.Call (.Name "range" p2) [a] [] q) X.env) :: starEach [] X.env := by rfl) : PE X (.Call (.Name "tuple" p) [.Call (.Name "range" p2) [a] [] q] [] pos) (tE Γ Wx (eU fTupRange ea)) :=
  PE_imp (pe_tupRg hc hg hm (prg_1 hg2 hm2 ha na) nb) fun σ H Q ⟨μ, l, st, hs, hl, h⟩ => tG_bind hs hl h _ fun w st1 μ1 H1 v e1 s1 r1 h1 => by
    unfold fTupRange at h1
    split at h1
    · rename_i j
      split at h1
      · rename_i hj
        cases r1
        refine ⟨j, rfl, ⟨by omega, by omega, by omega, by omega, by omega⟩, fun t ht => ?_⟩
        have E : Ext Γ.K μ1 μ1 H1 (upd H1 t (.tup (rgV 0 j))) := ext_upd (.inl ht)
        refine h1 _ _ _ E (s1.other ht) (.tup (.inl (.inl upd_same)) ?_)
        unfold rgV
        have : (j - 0).toNat = j.toNat := by omega
        rw [this]
        exact reps_up _ 0
      · exact h1.elim
    · exact h1.elim
end
end RB

set_option Elab.async false
set_option linter.all false
set_option maxRecDepth 100000
set_option maxHeartbeats 4000000
namespace RB
open PySem PySem.Spec PyProof.Rows L2
def spL (K : PySem.W.Frag) : Sp := fun vs H Q _ => ∃ (a : Addr) (ns : List Int), vs = [.ref a] ∧ SqL K H a (ns.map V.int) ∧ Only H ∧ ns.length ≤ 63 ∧ (∀ z ∈ ns, Builtin.Int.intBits z ≤ 1048576) ∧ ∀ H', Q (.bl true) H'
/-- the run gives True at every script -/
def Runs (F : List W → Sto → Res W) : Prop := ∀ ns : List Int, ns.length ≤ 63 → (∀ z ∈ ns, Builtin.Int.intBits z ≤ 1048576) → ∃ st', F [.ref 0] ⟨[.scr (ns.map .int)], none⟩ = .ok (.bl true) st'
theorem ints_low (n : Nat) : ∀ ns : List Int, W.lows n (ns.map W.int) = true
  | [] => rfl
  | _ :: r => by show (W.low n (W.int _) && W.lows n (r.map W.int)) = true; rw [ints_low n r]; rfl
section
variable {P : Program} {w : World} {K : PySem.W.Frag} {mg : Str → Option Value} {base : Heap} {cl ec : Nat → Addr} {fld : Nat → Str}
theorem law_ok {CX : CXT} {k : Nat} {f : Addr} {fd : FuncData} {ps : List Str} {F : List W → Sto → Res W} (hF : Runs F) (G : FnOk P w K mg base CX k f fd ps (spF ⟨K, cl, ec, fld⟩ 1 F)) : FnOk P w K mg base CX k f fd ps (spL K) := by
  refine G.imp fun vs H Q E ⟨a, ns, ev, hS, hO, hl, hbits, k⟩ => ?_
  subst ev
  obtain ⟨st', e⟩ := hF ns hl hbits
  refine ⟨[a], ⟨[.scr (ns.map .int)], none⟩, [.ref 0], ⟨rfl, ?_, ?_, ?_⟩, .cons (.ref rfl) .nil, rfl, ?_⟩
  · intro i j x c d hi hj ci
    cases i with
    | zero => cases hi; cases ci
    | succ i => cases hi
  · intro i c x hi hx
    cases i with
    | succ i => cases hi
    | zero =>
      cases hi; cases hx
      refine ⟨ns.map V.int, ?_, Reps.of_ints ns⟩
      rcases hS with hS | hS
      · rcases hO a with q | ⟨o, xs, q⟩
        · rcases hS with hS | ⟨o, hS⟩
          · rw [q] at hS; cases hS
          · rw [q] at hS; cases hS
        · rcases hS with hS | ⟨o', hS⟩
          · rw [q] at hS; cases hS
          · exact .inr ⟨o', hS⟩
      · exact .inl hS
  · intro i c hi _
    cases i with
    | succ i => cases hi
    | zero => cases hi; exact ints_low _ ns
  · rw [e]
    intro μ' H' b _ _ r
    cases r
    exact k H'
theorem fn_mk1 {k np : Nat} {x : Str} {f : Addr} {fd : FuncData} {ps : List Str} {F : List W → Sto → Res W} (G : FnOk P w K mg base (L2.CX P w) k f fd ps (spF ⟨K, cl, ec, fld⟩ np F)) (hm : mg x = some (.ref f)) (hk : PySem.W.keepIn K (.ref f) = true) (hb : L2.Binds K fd ps []) : Fn ⟨K, cl, ec, fld⟩ P w mg base k x np [] F :=
  ⟨f, fd, ps, [], [], G, hm, hk, hb, .nil, fun _ _ => .nil⟩
theorem fnI_mk1 {k np c : Nat} {x : Str} {f : Addr} {fd : FuncData} {ps : List Str} {ds : List Value} {F : List W → Sto → Res W} (G : FnOk P w K mg base (L2.CX P w) k f fd ps (spF ⟨K, cl, ec, fld⟩ np F)) (M : Mk K (cl c) f) (hm : mg x = some (.ref (cl c))) (hb : L2.Binds K fd ps ds) (hd : Vals [] ds) : FnI ⟨K, cl, ec, fld⟩ P w mg base k x c np [] F :=
  ⟨f, fd, ps, ds, [], G, M, hm, hb, hd, fun _ _ => .nil⟩
theorem fnP_mk1 {k c : Nat} {x : Str} {p g : Addr} {fd : FuncData} {ps : List Str} {F : List W → Sto → Res W} (G : FnOk P w K mg base (L2.CX P w) k g fd ps (spF ⟨K, cl, ec, fld⟩ 1 F)) (hp : PropOf K (cl c) x p g) (hb : L2.Binds K fd ps []) : FnP ⟨K, cl, ec, fld⟩ P w mg base k x c F :=
  ⟨p, g, fd, ps, G, hp, hb⟩
theorem mk_err_at {C fI : Addr} {qual : Str} {oc doc pm cdv ct : Value} {od an : Option Addr} {osl : Array (Option Value)} {p1 p2 q1 q2 q3 q4 : Pos} {nm q : Str} {N : Addr} {bs bm : List Value} {sn : List Str} {sub : List Value} {ab : Bool} {col : Option Bool} {dd : Option Addr} {k0 k1 k2 k3 k5 : Option Value}
    (cls : K.lookup C = some (excClassObj nm q C N bs bm true sn sub ab col dd k0 k1 k2 k3 k5 "Exception.__new__")) (hbm : PySem.ErrX.refsEx bm = true)
    (sa : PySem.W.findIn K (.ref C) "__setattr__" = some (some (.builtin "object.__setattr__"))) (ga : PySem.W.findIn K (.ref C) "__getattribute__" = some (some (.builtin "BaseException.__getattribute__"))) (gg : PySem.W.findIn K (.ref C) "__getattr__" = some none)
    (noN : PySem.W.findIn K (.ref C) "at" = some none) (kC : PySem.W.keepIn K (.ref C) = true) (exC : PySem.W.subIn K (.ref C) (.type "BaseException") = some true) (tyC : PySem.W.typeIn K (.ref C) = some (.type "type")) (hdC : PySem.W.hasDictIn K C = true)
    (iI : PySem.W.findIn K (.ref C) "__init__" = some (some (.ref fI))) (tI : PySem.W.typeIn K (.ref fI) = some (.type "function"))
    (fn : K.lookup fI = some ⟨oc, od, .func (PySem.W.fnOf "__init__" qual (PySem.ErrX.iA_at p1 p2) (PySem.ErrX.iB_at q1 q2 q3 q4) PySem.ErrX.iS_at .none .none doc pm an cdv ct), osl⟩) (hcd : PySem.W.codeIn K cdv qual = true) : PySem.ErrX.ErrC K C "at" :=
  { cls := ⟨_, _, _, _, _, _, _, _, _, _, _, _, _, _, _, cls, hbm⟩, sa := sa, ga := ga, gg := gg, noN := noN, kC := kC, exC := exC, tyC := tyC, hdC := hdC,
    ini := ⟨fI, iI, tI, fun prog w A R s x t0 v X hlim hx hnx room want => PySem.ErrX.ini_at fn hcd ⟨_, _, _, _, _, _, _, _, _, _, _, _, _, _, _, cls, hbm⟩ sa noN X hlim hx hnx room want⟩ }
end
theorem kit_more {K : PySem.W.Frag} {t c : Value} {r : List Value} {b : Bool} (h : PySem.W.kitAny K t [c] = some false) (q : PySem.W.kitAny K t r = some b) : PySem.W.kitAny K t (c :: r) = some b := by
  unfold PySem.W.kitAny at h ⊢
  cases e : PySem.W.kitOne K t c with
  | none => rw [e] at h; cases h
  | some x => cases x with
    | true => rw [e] at h; cases h
    | false => exact q
theorem kit_1 {K : PySem.W.Frag} {C : Addr} {T : String} {b : Bool} (h : PySem.W.subIn K (.ref C) (.type T) = some b) (m : PySem.W.kitMeta T = true) : PySem.W.kitAny K (.ref C) [.type T] = some b := by
  unfold PySem.W.kitAny PySem.W.kitOne
  rw [if_neg (by intro q; cases q)]
  unfold PySem.W.kitCls
  simp only [m, h, if_true]
  cases b <;> rfl
theorem kit_own {K : PySem.W.Frag} {C : Addr} {T : String} (ic : PySem.W.isClsIn K C = true) (ty : PySem.W.typeIn K (.ref C) = some (.type "type")) (h : PySem.W.subIn K (.type T) (.ref C) = some false) : PySem.W.kitAny K (.type T) [.ref C] = some false := by
  unfold PySem.W.kitAny PySem.W.kitOne
  rw [if_neg (by intro q; cases q)]
  have ic' : (PySem.W.clsIn K C).isSome = true := ic
  unfold PySem.W.kitCls
  simp only [ic', ty, h]
  rfl
theorem kit_self {K : PySem.W.Frag} {C : Addr} : PySem.W.kitAny K (.ref C) [.ref C] = some true := by
  unfold PySem.W.kitAny PySem.W.kitOne
  rw [if_pos (beq_self_eq_true _)]
theorem walk {l : PySem.W.OpenLaw} {q : Program} {loose : List Str} {XP : (Str → Option Value) → Heap → Prop} {YP : World → Heap → Prop} {d : DefRec} {K : Params → PySem.W.Frag} {k : Nat} (hn : l.most = some 63) (hdf : d.params.defaults = []) (hr : Room k callerA)
    (hY : ∀ (w : World) (h : Heap), YP w h → (K w.params).In h)
    (F : ∀ (w : World) (mg : Str → Option Value) (fa : Addr) (h : Heap), (K w.params).In h → h.Ns mainGlobals mg → mg d.name = some (.ref fa) →
      ∃ fd : FuncData, (∀ (s : Shared) (u : Value), BindsTo s fd ⟨[u], []⟩ [("script", u)]) ∧ ∀ base : Heap, (K w.params).In base → base.Ns mainGlobals mg → FnOk l.prog w (K w.params) mg base (L2.CX l.prog w) k fa fd ["script"] (spL (K w.params))) :
    PySem.W.WalkO q loose XP YP l.row.toRowW d [] (fun f vs => PySem.call f vs) :=
  L2.walk_ofB (n := 63) (k := k) (x := "script") (CX := fun w => L2.CX l.prog w) (sp := fun w => spL (K w.params)) hn (by decide) hdf hr hY F (fun _ H a ns hl hb hO hS => ⟨a, ns, rfl, hS, hO, hl, hb, fun _ => rfl⟩) fun w H s e s' h => by
    obtain ⟨_, _, _, _, _, _, _, _, _, _, _, _, z⟩ := h
    exact z.elim
end RB

set_option Elab.async false
set_option linter.all false
set_option maxRecDepth 100000
set_option maxHeartbeats 4000000
namespace RB
open PySem PySem.Spec PyProof.Rows L2
def eComp2 (n : Nat) (own own1 : List Nat) (src : Sv) (tg : Tg) (cond : Bv) (src1 : Sv) (tg1 : Tg) (cond1 : Bv) (elt : Ev) : Ev := fun l st => (src l st).bind fun s st1 => (cLoop s tg own cond (fun l1 st2 => (src1 l1 st2).bind fun s1 st3 => cLoop s1 tg1 own1 cond1 (cApp elt st1.c.length) l1 n 0 st3) l n 0 (st1.push (.lst []))).bind fun _ st2 => .ok (.ref st1.c.length) st2
/-- as a comprehension's target, for the inner one: it binds own names again -/
def andThen (r : Res Unit) (k : Sto → Res Unit) : Res Unit := match r with | .ok _ st => k st | _ => .err
section
variable {X : Cx} {Γ : Gm} {Wx : WX} {e a b o tg iter tg1 iter1 elt : Expr} {es : List Expr} {ea eb eo : Ev} {eas : Evs}
theorem cLoop_in {s : Src} {tg : Tg} {own : List Nat} {cond : Bv} {body : Rv} {l : Lo} {f i : Nat} {st : Sto} : cLoop s tg own cond body l (f + 1) i st = match s.at st i with
    | none => .err
    | some none => .ok () st
    | some (some w) => match tg w (wipeL l own) st with
      | none => .err
      | some l1 => match cond l1 st with
        | .ok b st1 => if b = true then andThen (body l1 st1) (fun st2 => cLoop s tg own cond body l f (i + 1) st2) else cLoop s tg own cond body l f (i + 1) st1
        | _ => .err := rfl
theorem lc2_run {own : List (Str × Nat)} {vs1 : List Nat} {src src1 : Sv} {t t1 : Tg} {g g1 : TG} {bc bc1 : Bv} {n : Nat} (hgt : CT Γ g t (own.map (·.2))) (hgt1 : CT Γ g1 t1 vs1) (σ : L2.St) (H : Hp) (Q : VK) (h : tE Γ Wx (eComp2 n (own.map (·.2)) vs1 src t bc src1 t1 bc1 ea) σ H Q) :
    tLc2 (tI Γ Wx src) g (tT Γ W0 bc) (tI Γ W0 src1) g1 (tT Γ W0 bc1) (tE Γ W0 ea) (own.map (·.2)) vs1 σ H Q := by
    obtain ⟨μ, l, st, hs, hl, h⟩ := h
    refine ⟨μ, l, st, hs, hl, ?_⟩
    unfold eComp2 at h
    cases es : src l st with
    | err => rw [es] at h; exact h
    | exc c p st1 => rw [es] at h; exact h
    | ok s st1 =>
      rw [es] at h
      intro μ1 H1 J e1 s1 hJ D hD
      have h := Post.mono (show Post Γ Wx (Rep Γ.K) μ σ H Q ((cLoop s t (own.map (·.2)) bc (fun l1 st2 => (src1 l1 st2).bind fun s1 st3 => cLoop s1 t1 vs1 bc1 (cApp ea st1.c.length) l1 n 0 st3) l n 0 (st1.push (.lst []))).bind fun _ st2 => .ok (.ref st1.c.length) st2) from h) e1
      have E : Ext Γ.K μ1 (μ1 ++ [D]) H1 (upd H1 D (.lst [])) := ext_new hD
      have s2 : Sim Γ (μ1 ++ [D]) (st1.push (.lst [])) (upd H1 D (.lst [])) := s1.new hD ⟨[], upd_same, .nil⟩ rfl
      have hd : (μ1 ++ [D])[st1.c.length]? = some D := by rw [← s1.len]; simp
      have h := Post.mono h E
      have hJ := hJ.mono E
      have hl := hl.mono (e1.trans E)
      generalize st1.c.length = d at *
      generalize hbody : (fun (l1 : Lo) (st2 : Sto) => (src1 l1 st2).bind fun s1 st3 => cLoop s1 t1 vs1 bc1 (cApp ea d) l1 n 0 st3) = body at *
      refine ⟨fun i m H' => ∃ μ' st', Ext Γ.K (μ1 ++ [D]) μ' (upd H1 D (.lst [])) H' ∧ Sim Γ μ' st' H' ∧ Post Γ Wx (Rep Γ.K) μ' σ H' Q ((cLoop s t (own.map (·.2)) bc body l m i st').bind fun _ st2 => .ok (.ref d) st2), ⟨n, _, _, .refl, s2, h⟩, ?_⟩
      rintro i m H' ⟨μ2, st2, e2, s2', h2⟩
      obtain ⟨go, stop⟩ := hJ μ2 H' st2 e2 s2' i
      cases m with
      | zero => exact h2.elim
      | succ m =>
        rw [cLoop_in] at h2
        cases ea1 : s.at st2 i with
        | none => rw [ea1] at h2; exact h2.elim
        | some oo =>
          cases oo with
          | none =>
            rw [ea1] at h2
            exact .inl ⟨stop ea1, Post.here (show Post Γ Wx (Rep Γ.K) μ2 σ H' Q (.ok (.ref d) st2) from h2) s2' (.ref (e2.pre _ _ hd))⟩
          | some w =>
            rw [ea1] at h2
            obtain ⟨go1, go2⟩ := go w ea1
            refine .inr ⟨go1, fun H3 => ∃ μ' st', Ext Γ.K (μ1 ++ [D]) μ' (upd H1 D (.lst [])) H3 ∧ Sim Γ μ' st' H3 ∧ Post Γ Wx (Rep Γ.K) μ' σ H3 Q ((cLoop s t (own.map (·.2)) bc body l m (i + 1) st').bind fun _ st2 => .ok (.ref d) st2), fun H3 q => ⟨m, Nat.lt_succ_self _, q⟩, fun v H3 hy => ?_⟩
            obtain ⟨y1, y2, y3⟩ := go2 v H3 hy
            dsimp only at h2
            cases et : t w (wipeL l (own.map Prod.snd)) st2 with
            | none => rw [et] at h2; exact h2.elim
            | some l3 =>
              rw [et] at h2
              dsimp only at h2
              have e3 := e2.trans y1
              have h2 := Post.mono h2 y1
              refine hgt μ2 H3 _ σ w v l3 st2 _ y2 ((hl.mono e3).wipe (own.map Prod.snd)) y3 et fun σ2 lr2 hw => ⟨hw, μ2, l3, st2, y2, lr2, ?_⟩
              cases eb : bc l3 st2 with
              | err => rw [eb] at h2; exact h2.elim
              | exc c p st4 => rw [eb] at h2; exact h2.elim
              | ok bb st4 =>
                rw [eb] at h2
                intro μ4 H4 b' e4 s4 r4
                subst r4
                have h4 := Post.mono h2 e4
                dsimp only at h4
                cases bb with
                | false => exact ⟨μ4, st4, e3.trans e4, s4, h4⟩
                | true =>
                  refine ⟨μ4, l3, st4, s4, lr2.mono e4, ?_⟩
                  have h4 : Post Γ Wx (Rep Γ.K) μ4 σ H4 Q ((andThen (body l3 st4) fun st2 => cLoop s t (own.map Prod.snd) bc body l m (i + 1) st2).bind fun _ st2 => .ok (.ref d) st2) := h4
                  rw [← hbody] at h4
                  dsimp only at h4
                  rw [hbody] at h4
                  cases es1 : src1 l3 st4 with
                  | err => rw [es1] at h4; exact h4.elim
                  | exc c p st5 => rw [es1] at h4; exact h4.elim
                  | ok s5 st5 =>
                    rw [es1] at h4
                    intro μ5 H5 J1 e5 q5 hJ1
                    have h5 := Post.mono (show Post Γ Wx (Rep Γ.K) μ4 σ H4 Q ((andThen (cLoop s5 t1 vs1 bc1 (cApp ea d) l3 n 0 st5) fun st2 => cLoop s t (own.map Prod.snd) bc body l m (i + 1) st2).bind fun _ st2 => .ok (.ref d) st2) from h4) e5
                    have lr5 := (lr2.mono e4).mono e5
                    have e35 := e3.trans (e4.trans e5)
                    refine ⟨fun j k H6 => ∃ μ' st', Ext Γ.K μ5 μ' H5 H6 ∧ Sim Γ μ' st' H6 ∧ Post Γ Wx (Rep Γ.K) μ' σ H6 Q ((andThen (cLoop s5 t1 vs1 bc1 (cApp ea d) l3 k j st') fun st2 => cLoop s t (own.map Prod.snd) bc body l m (i + 1) st2).bind fun _ st2 => .ok (.ref d) st2), ⟨n, _, _, .refl, q5, h5⟩, ?_⟩
                    rintro j k H6 ⟨μ6, st6, e6, s6, h6⟩
                    obtain ⟨goI, stopI⟩ := hJ1 μ6 H6 st6 e6 s6 j
                    cases k with
                    | zero => exact h6.elim
                    | succ k =>
                      rw [cLoop_in] at h6
                      cases ej : s5.at st6 j with
                      | none => rw [ej] at h6; exact h6.elim
                      | some oo =>
                        cases oo with
                        | none =>
                          rw [ej] at h6
                          exact .inl ⟨stopI ej, μ6, st6, e35.trans e6, s6, h6⟩
                        | some w6 =>
                          rw [ej] at h6
                          obtain ⟨gI1, gI2⟩ := goI w6 ej
                          refine .inr ⟨gI1, fun H7 => ∃ μ' st', Ext Γ.K μ5 μ' H5 H7 ∧ Sim Γ μ' st' H7 ∧ Post Γ Wx (Rep Γ.K) μ' σ H7 Q ((andThen (cLoop s5 t1 vs1 bc1 (cApp ea d) l3 k (j + 1) st') fun st2 => cLoop s t (own.map Prod.snd) bc body l m (i + 1) st2).bind fun _ st2 => .ok (.ref d) st2), fun H7 q => ⟨k, Nat.lt_succ_self _, q⟩, fun v7 H7 hy7 => ?_⟩
                          obtain ⟨z1, z2, z3⟩ := gI2 v7 H7 hy7
                          dsimp only at h6
                          cases et1 : t1 w6 (wipeL l3 vs1) st6 with
                          | none => rw [et1] at h6; exact h6.elim
                          | some l7 =>
                            rw [et1] at h6
                            dsimp only at h6
                            have h7 := Post.mono h6 z1
                            refine hgt1 μ6 H7 _ σ2 w6 v7 l7 st6 _ z2 ((lr5.mono (e6.trans z1)).wipe vs1) z3 et1 fun σ3 lr7 hw7 => ⟨hw7, μ6, l7, st6, z2, lr7, ?_⟩
                            cases eb1 : bc1 l7 st6 with
                            | err => rw [eb1] at h7; exact h7.elim
                            | exc c p st8 => rw [eb1] at h7; exact h7.elim
                            | ok b8 st8 =>
                              rw [eb1] at h7
                              intro μ8 H8 b8' e8 s8 r8
                              subst r8
                              have h8 := Post.mono h7 e8
                              dsimp only at h8
                              cases b8 with
                              | false => exact ⟨μ8, st8, e6.trans (z1.trans e8), s8, h8⟩
                              | true =>
                                refine ⟨μ8, l7, st8, s8, lr7.mono e8, ?_⟩
                                have h8 : Post Γ Wx (Rep Γ.K) μ8 σ H8 Q ((andThen (andThen (cApp ea d l7 st8) fun st2 => cLoop s5 t1 vs1 bc1 (cApp ea d) l3 k (j + 1) st2) fun st2 => cLoop s t (own.map Prod.snd) bc body l m (i + 1) st2).bind fun _ st2 => .ok (.ref d) st2) := h8
                                unfold cApp at h8
                                cases ey : ea l7 st8 with
                                | err => rw [ey] at h8; exact h8.elim
                                | exc c p st9 => rw [ey] at h8; exact h8.elim
                                | ok y st9 =>
                                  rw [ey] at h8
                                  intro μ9 H9 yv e9 s9 r9
                                  have h9 := Post.mono h8 e9
                                  have hd9 := (e35.trans (e6.trans (z1.trans (e8.trans e9)))).pre _ _ hd
                                  dsimp only at h9
                                  cases ec : st9.c[d]? with
                                  | none => rw [ec] at h9; exact h9.elim
                                  | some cc =>
                                    rw [ec] at h9
                                    cases cc with
                                    | lst us =>
                                      obtain ⟨acc, q1, q2⟩ := s9.cell d _ _ ec hd9
                                      dsimp only at h9
                                      by_cases hlen : us.length < 1000000
                                      · rw [if_pos hlen] at h9
                                        refine ⟨acc, q1, by rw [← q2.length]; exact Nat.lt_of_lt_of_le hlen (le_line (Nat.le_refl _)), ?_⟩
                                        have E9 := ext_wr (K := Γ.K) (μ := μ9) (o := .lst (acc ++ [yv])) q1
                                        exact ⟨μ9, _, (e6.trans (z1.trans (e8.trans e9))).trans E9, s9.write (c := .lst (us ++ [y])) (b := W.low d y) ec hd9 q1 rfl rfl ⟨_, upd_same, (q2.snoc r9).mono E9⟩ fun b q => lows_append q (by simp [W.lows]; exact b), Post.mono h9 E9⟩
                                      · rw [if_neg hlen] at h9; exact h9.elim
                                    | _ => exact h9.elim
/-- [elt for tg in iter if .. for tg1 in iter1 if ..] -/
theorem qe_comp2 {ifs ifs1 : List Expr} {scope : Scope} {own : List (Str × Nat)} {vs1 : List Nat} {pos : Pos} {src src1 : Sv} {t t1 : Tg} {g g1 : TG} {bc bc1 : Bv} {n : Nat} (hc : X.calm = true) (hN : X.N.Nodup) (hi : PI X tg iter (tI Γ Wx src)) (ok : BlkOk X.N X.env.scope scope own) (hv : ∀ i ∈ vs1, i ∈ own.map (·.2))
    (hg : ∀ (s : Shared) (H : Hp) (C : Addr) (cl : List (Str × Addr)) (fp : List Addr), PG (X.blk s H scope (compEnvC scope cl C X.env) fp) tg g) (hgt : CT Γ g t (own.map (·.2)))
    (ht : ∀ (s : Shared) (H : Hp) (C : Addr) (cl : List (Str × Addr)) (fp : List Addr), PTs (X.blk s H scope (compEnvC scope cl C X.env) fp) ifs (tT Γ W0 bc))
    (hi1 : ∀ (s : Shared) (H : Hp) (C : Addr) (cl : List (Str × Addr)) (fp : List Addr), PI (X.blk s H scope (compEnvC scope cl C X.env) fp) tg1 iter1 (tI Γ W0 src1))
    (hg1 : ∀ (s : Shared) (H : Hp) (C : Addr) (cl : List (Str × Addr)) (fp : List Addr), PG (X.blk s H scope (compEnvC scope cl C X.env) fp) tg1 g1) (hgt1 : CT Γ g1 t1 vs1)
    (ht1 : ∀ (s : Shared) (H : Hp) (C : Addr) (cl : List (Str × Addr)) (fp : List Addr), PTs (X.blk s H scope (compEnvC scope cl C X.env) fp) ifs1 (tT Γ W0 bc1))
    (he : ∀ (s : Shared) (H : Hp) (C : Addr) (cl : List (Str × Addr)) (fp : List Addr), PE (X.blk s H scope (compEnvC scope cl C X.env) fp) elt (tE Γ W0 ea))
    (hs : ∀ x, foldedSetIterable iter X.env x = pure x := by intro _; rfl) (hs1 : ∀ env x, foldedSetIterable iter1 env x = pure x := by intro _ _; rfl) : PE X (.ListComp elt [⟨tg, iter, ifs, 0⟩, ⟨tg1, iter1, ifs1, 0⟩] scope pos) (tE Γ Wx (eComp2 n (own.map (·.2)) vs1 src t bc src1 t1 bc1 ea)) :=
  PE_imp (pe_lc2 hc hN hi ok hv hg ht hi1 hg1 ht1 he hs hs1) fun σ H Q h => lc2_run hgt hgt1 σ H Q h
/-- y = [elt for tg in iter if .. for tg1 in iter1 if ..] -/
theorem qs_comp2 {ifs ifs1 : List Expr} {scope : Scope} {own : List (Str × Nat)} {vs1 : List Nat} {pos spos py : Pos} {i : Nat} {y : Str} {src src1 : Sv} {t t1 : Tg} {g g1 : TG} {bc bc1 : Bv} {n : Nat} (hc : X.calm = true) (hN : X.N.Nodup) (hy : X.N[i]? = some y) (hyl : X.env.scope.names.lookup y = some .local) (hsw : swapsWith (.ListComp elt [⟨tg, iter, ifs, 0⟩, ⟨tg1, iter1, ifs1, 0⟩] scope pos) (some (.Name y py)) spos.line X.env = pure true) (hi : PI X tg iter (tI Γ Wx src)) (ok : BlkOk X.N X.env.scope scope own) (hv : ∀ i ∈ vs1, i ∈ own.map (·.2))
    (hg : ∀ (s : Shared) (H : Hp) (C : Addr) (cl : List (Str × Addr)) (fp : List Addr), PG (X.blk s H scope (compEnvC scope cl C X.env) fp) tg g) (hgt : CT Γ g t (own.map (·.2)))
    (ht : ∀ (s : Shared) (H : Hp) (C : Addr) (cl : List (Str × Addr)) (fp : List Addr), PTs (X.blk s H scope (compEnvC scope cl C X.env) fp) ifs (tT Γ W0 bc))
    (hi1 : ∀ (s : Shared) (H : Hp) (C : Addr) (cl : List (Str × Addr)) (fp : List Addr), PI (X.blk s H scope (compEnvC scope cl C X.env) fp) tg1 iter1 (tI Γ W0 src1))
    (hg1 : ∀ (s : Shared) (H : Hp) (C : Addr) (cl : List (Str × Addr)) (fp : List Addr), PG (X.blk s H scope (compEnvC scope cl C X.env) fp) tg1 g1) (hgt1 : CT Γ g1 t1 vs1)
    (ht1 : ∀ (s : Shared) (H : Hp) (C : Addr) (cl : List (Str × Addr)) (fp : List Addr), PTs (X.blk s H scope (compEnvC scope cl C X.env) fp) ifs1 (tT Γ W0 bc1))
    (he : ∀ (s : Shared) (H : Hp) (C : Addr) (cl : List (Str × Addr)) (fp : List Addr), PE (X.blk s H scope (compEnvC scope cl C X.env) fp) elt (tE Γ W0 ea))
    (hs : ∀ x, foldedSetIterable iter X.env x = pure x := by intro _; rfl) (hs1 : ∀ env x, foldedSetIterable iter1 env x = pure x := by intro _ _; rfl) : PS X (.Assign [.Name y py] (.ListComp elt [⟨tg, iter, ifs, 0⟩, ⟨tg1, iter1, ifs1, 0⟩] scope pos) spos) (tS Γ Wx (sSet (tgName i) (eComp2 n (own.map (·.2)) vs1 src t bc src1 t1 bc1 ea))) :=
  PS_imp (ps_setLc2 hc hN hy hyl hsw hi ok hv hg ht hi1 hg1 ht1 he hs hs1) fun D σ H ⟨μ, l, st, hs, hl, h⟩ => lc2_run hgt hgt1 σ H _ (tG_bindS hs hl h _ fun w st1 μ1 H1 v e1 s1 r1 h1 => h1.here s1 ((hl.mono e1).set r1 i))
end
end RB

set_option Elab.async false
set_option linter.all false
set_option maxRecDepth 100000
set_option maxHeartbeats 4000000
namespace RB
open PySem PySem.Spec PyProof.Rows L2
def fAbs (ws : List W) (st : Sto) : Res W := match ws with | [.int i] => .ok (.int (if i < 0 then -i else i)) st | _ => .err
def tgPair (i j : Nat) : Tg := fun w l _ => match w with | .tup [x, y] => some ((l.set i (some x)).set j (some y)) | _ => none
section
variable {X : Cx} {Γ : Gm} {Wx : WX} {e a b o tg iter elt : Expr} {es : List Expr} {ea eb eo : Ev} {eas : Evs}
theorem ok_abs : CallOk Γ (fun xs H Q => ∃ i, xs = [.int i] ∧ Q (.int (if i < 0 then -i else i)) H) fAbs := fun Wx μ σ H st ws xs Q hs hr h => by
  unfold fAbs at h
  split at h
  · cases hr with
    | cons r t => cases r; cases t; exact ⟨_, rfl, h.here hs (.int _)⟩
  · exact h.elim
theorem ct_two {i j : Nat} {vs : List Nat} (hi : i ∈ vs) (hj : j ∈ vs) : CT Γ (gTup Γ.K 2 (gCons (gName i) (gCons (gName j) gNil))) (tgPair i j) vs := ct_pair hi hj
/-- a tuple of the written part -/
def KTup (K : PySem.W.Frag) (a : Addr) (ns : List Int) : Prop := ∃ (o : Obj) (its : Array Value) (n : Nat), K.lookup a = some o ∧ o.cls = .type "tuple" ∧ o.data = .seq its n ∧ its.size ≤ sizeLine ∧ Vals (ns.map V.int) its.toList
theorem KTup.rep {K : PySem.W.Frag} {a : Addr} {ns : List Int} (h : KTup K a ns) (μ : List Addr) (H : Hp) : Rep K μ H (.tup (ns.map .int)) (.ref a) := .tup (.inr h) (Reps.of_ints ns)
theorem q_gtup {x : Str} {ns : List Int} {pos : Pos} (hK : X.K = Γ.K) (hg : Gl X x) (hm : ∃ c, X.mg x = some (.ref c) ∧ KTup Γ.K c ns) (hd : (x == ("__debug__" : Str)) = false := by decide) : PE X (.Name x pos) (tE Γ Wx (eLit (.tup (ns.map .int)))) := by
  obtain ⟨c, hm, hk⟩ := hm
  exact qe_glob (v := .ref c) hg hm rfl (fun μ H => hk.rep μ H) hd
end
end RB

set_option Elab.async false
set_option linter.all false
set_option maxRecDepth 100000
set_option maxHeartbeats 4000000
namespace RB
open PySem PySem.Spec PyProof.Rows L2
open PySem.W (dataLe TotalLe sameRank EachIs)
section
variable {α : Type} {le : α → α → Bool}
def insB (le : α → α → Bool) (z : α) : List α → List α
  | [] => [z]
  | y :: r => if le z y = true then z :: y :: r else y :: insB le z r
def sortB (le : α → α → Bool) : List α → List α
  | [] => []
  | z :: r => insB le z (sortB le r)
theorem insB_mem {z x : α} : ∀ {l : List α}, x ∈ insB le z l → x = z ∨ x ∈ l
  | [], h => by simp [insB] at h; exact .inl h
  | y :: r, h => by
    unfold insB at h
    split at h
    · simpa using h
    · rcases List.mem_cons.mp h with e | e
      · exact .inr (by simp [e])
      · rcases insB_mem e with e | e
        · exact .inl e
        · exact .inr (by simp [e])
theorem insB_pair (T : TotalLe le) {z : α} : ∀ {l : List α}, l.Pairwise (fun a b => le a b = true) → (insB le z l).Pairwise (fun a b => le a b = true)
  | [], _ => by simp [insB]
  | y :: r, h => by
    have h2 := List.pairwise_cons.mp h
    unfold insB
    split
    · rename_i q
      refine List.pairwise_cons.mpr ⟨fun x hx => ?_, h⟩
      rcases List.mem_cons.mp hx with e | e
      · rw [e]; exact q
      · exact T.trans _ _ _ q (h2.1 x e)
    · rename_i q
      refine List.pairwise_cons.mpr ⟨fun x hx => ?_, insB_pair T h2.2⟩
      rcases insB_mem hx with e | e
      · rw [e]; exact (T.total y z).resolve_right q
      · exact h2.1 x e
theorem insB_filter (T : TotalLe le) {z c : α} : ∀ {l : List α}, (insB le z l).filter (sameRank le c) = (z :: l).filter (sameRank le c)
  | [] => rfl
  | y :: r => by
    unfold insB
    split
    · rfl
    · rename_i q
      rw [List.filter_cons, insB_filter T]
      by_cases hz : sameRank le c z = true
      · have hy : ¬ sameRank le c y = true := fun hy => q (by
          unfold sameRank at hz hy
          rw [Bool.and_eq_true] at hz hy
          exact T.trans _ _ _ hz.2 hy.1)
        rw [if_neg hy, List.filter_cons, List.filter_cons, if_pos hz, List.filter_cons, if_neg hy, if_pos hz]
      · rw [List.filter_cons, if_neg hz, List.filter_cons, if_neg hz, List.filter_cons]
theorem sortB_eq (T : TotalLe le) : ∀ l : List α, sortB le l = l.mergeSort le := fun l => by
  refine PySem.W.sort_unique T ?_ fun c => ?_
  · induction l with
    | nil => exact .nil
    | cons a r ih => exact insB_pair T ih
  · induction l with
    | nil => rfl
    | cons a r ih =>
      show (insB le a (sortB le r)).filter _ = _
      rw [insB_filter T, List.filter_cons, List.filter_cons, ih]
end
def intB : PyData → Bool
  | .int _ => true
  | _ => false
def tupB : PyData → Bool
  | .tuple xs => xs.all intB
  | _ => false
/-- a tuple, not empty, of tuples of ints -/
def nestB : PyData → Bool
  | .tuple (x :: xs) => (x :: xs).all tupB
  | _ => false
theorem alike_intB {d e : PyData} (h : intB d = true) (q : intB e = true) : PySem.W.alike d e = true := by
  cases d <;> cases e <;> first | rfl | (cases h; done) | (cases q; done)
theorem alikeAll_by {f : PyData → Bool} (hf : ∀ d e, f d = true → f e = true → PySem.W.alike d e = true) : ∀ xs ys : List PyData, xs.all f = true → ys.all f = true → PySem.W.alikeAll xs ys = true
  | [], ys, _, _ => by cases ys <;> rfl
  | _ :: _, [], _, _ => rfl
  | x :: xs, y :: ys, h, q => by
    rw [List.all_cons, Bool.and_eq_true] at h q
    show (PySem.W.alike x y && PySem.W.alikeAll xs ys) = true
    rw [hf x y h.1 q.1, alikeAll_by hf xs ys h.2 q.2]; rfl
theorem alike_tupB {d e : PyData} (h : tupB d = true) (q : tupB e = true) : PySem.W.alike d e = true := by
  cases d with
  | tuple xs => cases e with
    | tuple ys => exact alikeAll_by (fun _ _ => alike_intB) xs ys h q
    | _ => cases q
  | _ => cases h
theorem alike_nestB {d e : PyData} (h : nestB d = true) (q : nestB e = true) : PySem.W.alike d e = true := by
  unfold nestB at h q
  split at h
  · split at q
    · exact alikeAll_by (fun _ _ => alike_tupB) _ _ h q
    · cases q
  · cases h
theorem all_alike {ds : List PyData} (h : (ds.all nestB || ds.all intB) = true) : PySem.W.AllAlike ds := by
  intro d h1 e h2
  rw [Bool.or_eq_true] at h
  rcases h with h | h
  · exact alike_nestB (List.all_eq_true.mp h d h1) (List.all_eq_true.mp h e h2)
  · exact alike_intB (List.all_eq_true.mp h d h1) (List.all_eq_true.mp h e h2)
theorem all_sortable {ds : List PyData} (h : (ds.all nestB || ds.all intB) = true) : PySem.W.Sortable ds := by
  rw [Bool.or_eq_true] at h
  rcases h with h | h
  · refine .inl fun d hd => ?_
    have := List.all_eq_true.mp h d hd
    unfold nestB at this
    split at this
    · exact ⟨_, _, rfl⟩
    · cases this
  · refine .inr fun d hd => ?_
    have := List.all_eq_true.mp h d hd
    cases d <;> first | (cases this; done) | exact ⟨(by intro q; cases q), (by intro xs q; cases q)⟩
def rSortD (K : PySem.W.Frag) : List V → Hp → VK → Prop := fun vs H Q => ∃ (a : Addr) (xs : List V) (ds : List PyData), vs = [V.ref a] ∧ SqL K H a xs ∧ DpAll K H xs ds ∧ (ds.all nestB || ds.all intB) = true ∧ PyData.depthAll ds ≤ 9 ∧
  ∀ p, H p = none → Q (.ref p) (upd H p (.lst (((xs.zip ds).mergeSort (dataLe false Prod.snd)).map Prod.fst)))
theorem dpAll_len {K : PySem.W.Frag} {H : Hp} : ∀ {xs : List V} {ds : List PyData}, DpAll K H xs ds → xs.length = ds.length
  | _, _, .nil => rfl
  | _, _, .cons _ h => congrArg (· + 1) (dpAll_len h)
theorem depth_mem {n : Nat} : ∀ {ds : List PyData}, PyData.depthAll ds ≤ n → ∀ d ∈ ds, d.depth ≤ n
  | [], _, d, h => by cases h
  | e :: r, q, d, h => by
    simp only [PyData.depthAll] at q
    rcases List.mem_cons.mp h with e | e
    · subst e; omega
    · exact depth_mem (by omega) d e
section
variable {X : Cx} {Γ : Gm} {Wx : WX}
theorem each_vals : ∀ {out : List Value} {zs : List (V × PyData)}, EachIs (fun (v : Value) (b : V × PyData) => RelV b.1 v) out zs → Vals (zs.map Prod.fst) out
  | _, _, .nil => .nil
  | _, _, .cons h t => .cons h (each_vals t)
theorem each_rel : ∀ {xs : List V} {its : List Value} {ds : List PyData}, Vals xs its → xs.length = ds.length → EachIs (fun (v : Value) (b : V × PyData) => RelV b.1 v) its (xs.zip ds)
  | _, _, [], .nil, _ => .nil
  | _, _, d :: ds, .cons r t, h => .cons r (each_rel t (by simpa using h))
theorem each_reads {pins : List (Addr × Obj)} {s : Shared} {σ : L2.St} {H : Hp} (I : L2.Inv X pins σ H s) : ∀ {xs : List V} {its : List Value} {ds : List PyData}, Vals xs its → DpAll X.K H xs ds → EachIs (fun (v : Value) (b : V × PyData) => ∃ as, Reads s.heap v b.2 as) its (xs.zip ds)
  | _, _, _, .nil, .nil => .nil
  | _, _, _, .cons r t, .cons d dt => .cons (Dp.reads I _ _ _ d r) (each_reads I t dt)
theorem cr_sortD (hu : X.A.units + 64 < cLine) : CallR X (.builtin "sorted") (rSortD X.K) := by
  intro pins s σ H vs us Q I r want
  obtain ⟨a, xs, ds, rfl, hs, hd, hk, hdp, q⟩ := want
  obtain ⟨its, rv, hl, hz⟩ := I.list hs
  rw [Vals.ref1 r]
  have hlen := dpAll_len hd
  have hmap : (xs.zip ds).map Prod.snd = ds := List.map_snd_zip (by omega)
  have hzl : (xs.zip ds).length = xs.length := by rw [List.length_zip]; omega
  refine PySem.W.sorted_data (bs := xs.zip ds) (enc := Prod.snd) (R := fun (v : Value) (b : V × PyData) => RelV b.1 v) hl.isList (each_rel rv hlen) (each_reads I rv hd) ?_ ?_ (by rw [hzl]; exact hz) (fun b hb => ?_) fun out ho he => ?_
  · rw [hmap]; exact all_alike hk
  · rw [hmap]; exact all_sortable hk
  · have : b.2 ∈ ds := by rw [← hmap]; exact List.mem_map_of_mem hb
    have := depth_mem hdp _ this
    omega
  · obtain ⟨ep, he'⟩ := PyProof.Rows.sortedAll_at s.heap its out.toArray
    have hv := each_vals he
    have hlo : (((xs.zip ds).mergeSort (dataLe false Prod.snd)).map Prod.fst).length ≤ sizeLine := by rw [List.length_map, List.length_mergeSort, hzl]; exact hz
    exact ⟨.ref _, upd H (s.heap.objs.size + 1) (.lst (((xs.zip ds).mergeSort (dataLe false Prod.snd)).map Prod.fst)), I.laid (t' := s.toks) (fun _ _ => PyProof.Rows.sortedAll_old) (Nat.le_succ _) ⟨hlo, _, ep, hv, he'⟩, rfl, q _ (I.hok.fresh (Nat.le_succ _))⟩
/-- sorted(xs) -/
def fSortD (ws : List W) (st : Sto) : Res W := match ws with
  | [.ref n] => (match getL st n with
    | some us => (match W.dats 8 us with
      | some ds => if (ds.all nestB || ds.all intB) = true then .ok (.ref st.c.length) (st.push (.lst ((sortB (dataLe false Prod.snd) (us.zip ds)).map Prod.fst))) else .err
      | none => .err)
    | none => .err)
  | _ => .err
theorem sorted_reps {K : PySem.W.Frag} {μ : List Addr} {H : Hp} : ∀ {us : List W} {xs : List V} {ds : List PyData}, Reps K μ H us xs → us.length = ds.length → EachIs (fun (p : W × PyData) (b : V × PyData) => Rep K μ H p.1 b.1 ∧ p.2 = b.2) (us.zip ds) (xs.zip ds)
  | _, _, [], .nil, _ => .nil
  | _, _, d :: ds, .cons r t, h => .cons ⟨r, rfl⟩ (sorted_reps t (by simpa using h))
theorem reps_each {K : PySem.W.Frag} {μ : List Addr} {H : Hp} : ∀ {zs : List (W × PyData)} {ys : List (V × PyData)}, EachIs (fun (p : W × PyData) (b : V × PyData) => Rep K μ H p.1 b.1 ∧ p.2 = b.2) zs ys → Reps K μ H (zs.map Prod.fst) (ys.map Prod.fst)
  | _, _, .nil => .nil
  | _, _, .cons h t => .cons h.1 (reps_each t)
theorem dataLe_total {β : Type} (k : β → PyData) : TotalLe (dataLe false k) := PySem.W.sortLe_total _ _ _
theorem insB_mem2 {α : Type} {le : α → α → Bool} {x : α} : ∀ {l : List α}, x ∈ sortB le l → x ∈ l
  | [], h => h
  | z :: r, h => by
    rcases insB_mem (show x ∈ insB le z (sortB le r) from h) with e | e
    · rw [e]; exact List.mem_cons_self
    · exact List.mem_cons_of_mem _ (insB_mem2 e)
theorem lows_all {n : Nat} : ∀ {ws : List W}, W.lows n ws = true ↔ ∀ w ∈ ws, W.low n w = true
  | [] => by simp [W.lows]
  | w :: r => by simp [W.lows, lows_all (ws := r)]
theorem ok_sortD (hK : X.K = Γ.K) : CallOk Γ (rSortD X.K) fSortD := fun Wx μ σ H st ws xs Q hs hr h => by
  rw [hK]
  unfold fSortD at h
  split at h
  · rename_i n
    split at h
    · rename_i us e1
      split at h
      · rename_i ds e2
        split at h
        · rename_i hq
          cases hr with
          | cons r t =>
            cases t
            obtain ⟨a, zs, rfl, h1, h2⟩ := getL_rep hs e1 r
            obtain ⟨x1, x2, x3⟩ := dats_rep (n := 8) e2 h2
            have hl := dpAll_len x1
            have hl2 := h2.length
            refine ⟨a, zs, ds, rfl, h1, x1, hq, by omega, fun p hp => ?_⟩
            have E2 : Ext Γ.K μ (μ ++ [p]) H (upd H p (.lst (((zs.zip ds).mergeSort (dataLe false Prod.snd)).map Prod.fst))) := ext_new hp
            have key : EachIs (fun (p : W × PyData) (b : V × PyData) => Rep Γ.K μ H p.1 b.1 ∧ p.2 = b.2) ((us.zip ds).mergeSort (dataLe false Prod.snd)) ((zs.zip ds).mergeSort (dataLe false Prod.snd)) := by
              refine PySem.W.sort_each (sorted_reps h2 (by omega)) fun p hp q hq => ?_
              have e1 := ((sorted_reps h2 (by omega)).zip p hp).2
              have e2 := ((sorted_reps h2 (by omega)).zip q hq).2
              show (!PySem.W.dataLt q.1.2 p.1.2) = (!PySem.W.dataLt q.2.2 p.2.2)
              rw [e1, e2]
            have rr := reps_each key
            rw [← sortB_eq (dataLe_total Prod.snd)] at rr
            exact h _ _ _ E2 (hs.new hp ⟨_, upd_same, rr.mono E2⟩ (rr.low (Nat.le_of_eq hs.len))) (.ref (by rw [← hs.len]; simp))
        · exact h.elim
      · exact h.elim
    · exact h.elim
  · exact h.elim
end
end RB

set_option Elab.async false
set_option linter.all false
set_option maxRecDepth 100000
set_option maxHeartbeats 4000000
namespace RB
open PySem PySem.Spec PyProof.Rows L2
structure FnK (Γ : Gm) (P : Program) (w : World) (mg : Str → Option Value) (base : Heap) (k : Nat) (x : Str) (ks : List Str) (F : List W → Sto → Res W) : Prop where
  ex : ∃ (f : Addr) (fd : FuncData), FnOk P w Γ.K mg base (L2.CX P w) k f fd ks (spF Γ ks.length F) ∧ mg x = some (.ref f) ∧ PySem.W.keepIn Γ.K (.ref f) = true ∧ ∀ (s : Shared) (ws : List Value), Γ.K.In s.heap → ws.length = ks.length → BindsTo s fd ⟨[], ks.zip ws⟩ (ks.zip ws)
section
variable {X : Cx} {Γ : Gm} {Wx : WX} {e a b o : Expr} {es : List Expr} {ea eb eo : Ev} {eas : Evs}
theorem call_at {CX : CXT} {k : Nat} {f : Addr} {fd : FuncData} {ps : List Str} {sp : Sp} {E : XK} {pins : List (Addr × Obj)} {σ : L2.St} {H : Hp} {s : Shared} {Q : VK} {us us' : List Value} {kw : List (Str × Value)} {vs : List V}
    (G : FnOk X.prog X.w X.K X.mg X.base CX k f fd ps sp) (room : Room k X.A) (hb : BindsTo s fd ⟨us, kw⟩ (ps.zip us')) (hx : PassesAt CX X σ E) (I : L2.Inv X pins σ H s) (rv : Vals vs us') (want : sp vs H Q E) : wpAny (model X.prog X.w) X.A (call (.ref f) us kw) (EP X pins σ Q) X.xe s := by
  refine wpAny_call (codeAny_mono (G.run X.A X.stack s H ⟨us, kw⟩ us' vs Q E room I.env0 hb rv want) fun res s2 h2 => ?_)
  match res, h2 with
  | .error er, h2 => exact hx pins _ _ er s2 I h2
  | .ok (.ret u), h2 => exact I.after h2
  | .ok .next, h2 => exact h2.elim
  | .ok .brk, h2 => exact h2.elim
  | .ok .cont, h2 => exact h2.elim
theorem qk_nil : PK X [] (tA Γ Wx evNil) := ⟨fun pos pins s σ H Q I ⟨μ, l, st, hs, hl, h⟩ => pk_nil.run pos pins s σ H Q I (h.here hs .nil)⟩
theorem qk_cons {nm : Option Str} {kpos : Pos} {kws : List Keyword} (ha : PE X a (tE Γ Wx ea)) (hr : PK X kws (tA Γ Wx eas)) : PK X (⟨nm, a, kpos⟩ :: kws) (tA Γ Wx (evCons ea eas)) :=
  ⟨fun pos pins s σ H Q I ⟨μ, l, st, hs, hl, h⟩ => (pk_cons ha hr).run pos pins s σ H Q I (tG_bind hs hl h _ fun w st1 μ1 H1 v e1 s1 r1 h1 => tG_bind s1 (hl.mono e1) h1 _ fun ws st2 μ2 H2 vs e2 s2 r2 h2 => h2.here s2 (.cons (r1.mono e2) r2))⟩
/-- f(k = e, ..) -/
theorem qe_callK {k : Nat} {x : Str} {ks : List Str} {F : List W → Sto → Res W} {kws : List Keyword} {p pos : Pos} (G : FnK Γ X.prog X.w X.mg X.base k x ks F) (hK : X.K = Γ.K) (hr : Room k X.A) (tk : Takes X Wx) (hg : Gl X x) (ha : PK X kws (tA Γ Wx eas)) (hlen : evLen ks.length eas)
    (hall : (backToKw pos (keywordEach kws X.env)).all (·.1.isSome) = true := by rfl) (hks : (backToKw pos (keywordEach kws X.env)).filterMap (·.1) = ks := by rfl) (hdb : (x == ("__debug__" : Str)) = false := by decide)
    (hpl : ((backTo pos (starEach [] X.env)).any (·.1) || (backToKw pos (keywordEach kws X.env)).any (·.1.isNone)) = false := by rfl) : PE X (.Call (.Name x p) [] kws pos) (tE Γ Wx (eCall F [] eas)) := by
  obtain ⟨f, fd, G1, hm, hk, hb⟩ := G.ex
  rw [← hK] at G1 hk hb
  refine ⟨fun pins s σ H Q I hh => ?_⟩
  obtain ⟨μ, l, st, hs, hl, h⟩ := hh
  refine wpAny_Call_Name_kw (ld_glob I hg hm ?_ hdb)
  refine PySem.W.callWith_KW0 (h₀ := X.base) I.ok.mod.kin hk hall ?_ hpl
  have hE : tA Γ Wx eas σ H (fun vs H1 => vs.length = ks.length ∧ spF Γ ks.length F vs H1 Q (WE Wx σ)) := by
    refine ⟨μ, l, st, hs, hl, ?_⟩
    unfold eCall at h
    cases ee : eas l st with
    | err => rw [ee] at h; exact h
    | exc c p st1 => rw [ee] at h; exact h
    | ok ws st1 =>
      rw [ee] at h
      have hl2 := hlen l st ws st1 ee
      intro μ1 H1 vs e1 s1 r1
      have := spF_run (np := ks.length) (dvs := []) (dws := []) s1 r1 .nil (by rw [List.append_nil]; exact hl2) (Post.mono (show Post Γ Wx (Rep Γ.K) μ σ H Q (F (ws ++ []) st1) from h) e1)
      rw [List.append_nil] at this
      exact ⟨by rw [← r1.length]; exact hl2, this⟩
  refine thn (ha.run pos pins s σ H _ I hE) fun ws s2 ⟨zs, H2, I2, rz, l2, q2⟩ => ⟨I2.kIn, ?_⟩
  rw [hks]
  exact call_at G1 hr (hb s2 ws I2.kIn (rz.length.symm.trans l2)) (passAt tk σ) I2 rz q2
end
end RB

set_option Elab.async false
set_option linter.all false
set_option maxRecDepth 100000
set_option maxHeartbeats 4000000
namespace RPm
open PySem PySem.Spec
open Sem (wp)

theorem mro_pm : mroOf (.type "itertools.permutations") = pure [.type "itertools.permutations", .type "object"] := by rw [mroOf_type]; kernel_rfl
theorem lookup_new : typeLookup (.type "itertools.permutations") "__new__" = pure (some (.builtin "itertools.permutations.__new__")) := by rw [typeLookup_type, builtinLookup_eq_fast]; kernel_rfl
theorem slot_init : Slot "itertools.permutations" "__init__" "object.__init__" :=
  .of (owner := "object") (n := "__init__") (by rw [typeLookup_type, builtinLookup_eq_fast]; kernel_rfl) (by decide +kernel) (by decide +kernel) (by decide +kernel)
    (by first | exact .inl (by decide +kernel) | exact .inr (by decide +kernel)) (by rw [isSubtype_type]; kernel_rfl)
theorem sub_pm : isSubtype (.type "itertools.permutations") (.type "itertools.permutations") = pure true := by rw [isSubtype_type]; kernel_rfl
theorem called_pm : TypeCalled "itertools.permutations" "itertools.permutations.__new__" "object.__init__" :=
  ⟨by decide +kernel, by decide +kernel, ⟨_, _, mro_pm⟩, madeBy_type mro_pm lookup_new (by decide +kernel), by decide +kernel, sub_pm, slot_init⟩
theorem typeCall_1 (a : Value) : checkTypeCall "itertools.permutations" ⟨[a], []⟩ = pure () := by kernel_rfl
theorem newCall_1 (a : Value) : checkBuiltinCall "itertools.permutations.__new__" ⟨[.type "itertools.permutations", a], []⟩ = pure () := by kernel_rfl
theorem entry_new : entryFor table "itertools.permutations.__new__" = some Builtin.«itertools.permutations.__new__» := entryFor_of_tree (by kernel_rfl)
theorem slot_iter : Slot "itertools.permutations" "__iter__" "itertools.permutations.__iter__" :=
  .of (owner := "itertools.permutations") (n := "__iter__") (by rw [typeLookup_type, builtinLookup_eq_fast]; kernel_rfl) (by decide +kernel) (by decide +kernel) (by decide +kernel)
    (by first | exact .inl (by decide +kernel) | exact .inr (by decide +kernel)) sub_pm
theorem slot_next : Slot "itertools.permutations" "__next__" "itertools.permutations.__next__" :=
  .of (owner := "itertools.permutations") (n := "__next__") (by rw [typeLookup_type, builtinLookup_eq_fast]; kernel_rfl) (by decide +kernel) (by decide +kernel) (by decide +kernel)
    (by first | exact .inl (by decide +kernel) | exact .inr (by decide +kernel)) sub_pm
theorem entry_iter : entryFor table "itertools.permutations.__iter__" = some Builtin.«dict_keyiterator.__iter__» :=
  entryFor_alias (id' := "dict_keyiterator.__iter__") (by kernel_rfl) (by first | rfl | decide +kernel | (unfold String.splitOn; simp +decide [String.splitOnAux])) (by decide +kernel) (by kernel_rfl)
theorem entry_next : entryFor table "itertools.permutations.__next__" = some Builtin.«itertools.permutations.__next__» := entryFor_of_tree (by kernel_rfl)
theorem owner_pm : Manifest.owners.lookup (String.ofList "itertools.permutations".toList.reverse.reverse) = some Manifest.sig_itertools_permutations := by kernel_rfl
theorem args_iter (a : Value) : argsOk "itertools.permutations.__iter__" ⟨[a], []⟩ := by
  unfold argsOk; rw [signature?_of (id := "itertools.permutations.__iter__") (n := ['_', '_', 'r', 'e', 't', 'i', '_', '_']) (o := "itertools.permutations".toList.reverse) (by kernel_rfl) owner_pm]; kernel_rfl
theorem args_next (a : Value) : argsOk "itertools.permutations.__next__" ⟨[a], []⟩ := by
  unfold argsOk; rw [signature?_of (id := "itertools.permutations.__next__") (n := ['_', '_', 't', 'x', 'e', 'n', '_', '_']) (o := "itertools.permutations".toList.reverse) (by kernel_rfl) owner_pm]; kernel_rfl
theorem noDict_pm : typeHasDict (.type "itertools.permutations") = false := by decide +kernel
theorem no_len : typeLookup (.type "itertools.permutations") "__len__" = pure none := by rw [typeLookup_type, builtinLookup_eq_fast]; kernel_rfl
theorem no_hint : typeLookup (.type "itertools.permutations") "__length_hint__" = pure none := by rw [typeLookup_type, builtinLookup_eq_fast]; kernel_rfl

/-- the object -/
def pmObj (T : Addr) (ph n : Nat) (r : Value) (xs ys : List Nat) : Obj :=
  { cls := .type "itertools.permutations", dict := none, data := .fields ([Value.ref T, .int ph 0, .int n 0, r] ++ (xs ++ ys).map fun i : Nat => Value.int i 0).toArray, slots := #[] }
def downFrom : Nat → List Nat
  | 0 => []
  | n + 1 => (n + 1) :: downFrom n
end RPm

set_option Elab.async false
set_option linter.all false
set_option maxRecDepth 100000
set_option maxHeartbeats 4000000
namespace RPm
open PySem PySem.Spec PyProof.Rows L2
open Sem (wp)
theorem rec_new {prog : Program} {w : World} {A : Around} {s : Shared} {Q : PySem.Fin → Shared → Prop} {E : Value → Shared → Prop} (xs : List Value) (hz : xs.length ≤ 4) (mk : Value → List Value) (hm : ∀ t, (mk t).length ≤ 12)
    (h : Q (.done (.ret (.ref (s.heap.objs.size + 1)))) { s with heap := (s.heap.push { cls := .type "tuple", data := .seq xs.toArray }).push { cls := .type "itertools.permutations", data := .fields (mk (.ref s.heap.objs.size)).toArray } }) :
    wpAny (model prog w) A (newTuple xs >>= fun t => Builtin.Itertools.itNewRecord (.type "itertools.permutations") (mk t) >>= fun o => ret o) Q E s := by
  refine wpAny_bind ?_
  simp only [newTuple]
  refine wpAny_newObj_type ?_ (by show xs.toArray.size ≤ _; rw [List.size_toArray, sizeLine_eq]; omega)
  refine wpAny_bind ?_
  unfold Builtin.Itertools.itNewRecord
  rw [if_pos (by rw [noDict_pm]; rfl)]
  refine wpAny_newObj_type ?_ (by have := hm (.ref s.heap.objs.size); show (mk _).toArray.size ≤ _; rw [List.size_toArray, sizeLine_eq]; omega)
  rw [Heap.size_push]
  exact wpAny_pure h
theorem tooMany {n : Nat} (h : n ≤ 4) : ¬ (Builtin.Itertools.itTooMany (n : Int) = true) := by
  unfold Builtin.Itertools.itTooMany
  rw [decide_eq_true_eq]
  have : (2 : Int) ^ 20 = 1048576 := by decide
  omega
theorem downs (n : Nat) : (List.range n).map (fun i : Nat => Value.int ((n : Int) - (i : Int)) 0) = (downFrom n).map fun i : Nat => Value.int i 0 := by
  induction n with
  | zero => rfl
  | succ n ih =>
    rw [List.range_succ_eq_map, List.map_cons, List.map_map]
    show _ = Value.int ((n + 1 : Nat) : Int) 0 :: (downFrom n).map _
    rw [← ih]
    congr 1
    refine List.map_congr_left fun i _ => ?_
    show Value.int (((n + 1 : Nat) : Int) - ((i + 1 : Nat) : Int)) 0 = _
    congr 1
    push_cast
    omega
end RPm

set_option Elab.async false
set_option linter.all false
set_option maxRecDepth 100000
set_option maxHeartbeats 4000000
namespace RPm
open PySem PySem.Spec PyProof.Rows L2
open Sem (wp)
theorem none_of {h h' : Heap} (k : ∀ b o, h.get? b = some o → h'.get? b = some o) {a : Addr} (ha : h'.objs.size ≤ a) : h.get? a = none := by
  cases e : h.get? a with
  | none => rfl
  | some o => exact absurd (Heap.lt_size (k a o e)) (Nat.not_lt.mpr ha)
theorem meets_new (a : Addr) (items : Array Value) (k : Nat) (hz : items.size ≤ 4) :
    Meets (Builtin.«itertools.permutations.__new__» ⟨[.type "itertools.permutations", .ref a], []⟩)
      (fun _ R s => s.heap.get? a = some { cls := .type "list", dict := none, data := .seq items k, slots := #[] } ∧
        ∀ h' T I, (∀ b o, s.heap.get? b = some o → h'.get? b = some o) → s.heap.get? T = none → s.heap.get? I = none → T < I → IsTup h' T items → h'.get? I = some (pmObj T 0 items.size .none (List.range items.size) (downFrom items.size)) → R (.ok (.ret (.ref I))) { s with heap := h' }) :=
  .of_wp fun prog w A R s h => by
    obtain ⟨hp, g, dd, tk, os⟩ := s
    obtain ⟨ho, h⟩ := h
    have hsub : isSubtype (.type "itertools.permutations") (.type ("itertools." ++ "permutations")) = pure true := sub_pm
    have hd := noDict_pm
    unfold Builtin.«itertools.permutations.__new__»
    refine wpAny_bind ?_
    unfold Builtin.Itertools.itClassAndRest
    repeat (first
      | (with_reducible refine wpAny_collect_seq (hsz := by rw [sizeLine_eq]; omega) a (.inl rfl) ho rfl rfl (fun h1 hk => ?_))
      | wp_step
      | simp only [List.head?_cons, Option.some_or, List.getElem?_cons_succ, List.getElem?_cons_zero, List.length_cons, List.length_nil, List.forIn_nil])
    rw [if_neg (tooMany (by rw [Array.length_toList]; exact hz))]
    refine rec_new items.toList (by rw [Array.length_toList]; exact hz) _ (fun t => by simp; omega) ?_
    refine ⟨_, rfl, h _ h1.objs.size (h1.objs.size + 1) (fun b o e => Heap.get?_push_of_some _ (Heap.get?_push_of_some _ (hk b o e))) (none_of hk (Nat.le_refl _)) (none_of hk (Nat.le_succ _)) (Nat.lt_succ_self _) ?_ ?_⟩
    · exact (IsTup.new h1 items).push _
    · have e : (h1.push { cls := .type "tuple", data := .seq items.toList.toArray }).objs.size = h1.objs.size + 1 := Heap.size_push ..
      rw [← e]
      rw [Heap.get?_push_size _ rfl]
      unfold pmObj
      simp [rawInt, ← downs]
end RPm

set_option Elab.async false
set_option linter.all false
set_option maxRecDepth 100000
set_option maxHeartbeats 4000000
namespace RPm
open PySem PySem.Spec PyProof.Rows L2
open Sem (wp)
section
variable {prog : Program} {w : World} {A : Around} {E : Value → Shared → Prop} {s : Shared} {I T : Addr} {n ph : Nat} {r : Value} {xs ys : List Nat} {items : Array Value}
theorem iter_pm {Q : Value → Shared → Prop} (ho : s.heap.get? I = some (pmObj T ph n r xs ys)) (h : Q (.ref I) s) : wpAny (model prog w) A (pyIter (.ref I)) Q E s := by
  have hT : s.TypeIs (.ref I) "itertools.permutations" := ⟨_, ho, rfl⟩
  refine wpAny_pyIter_slot hT slot_iter (wpAny_call_entry slot_iter hT entry_iter ?_ (args_iter _))
  show wpAny _ _ (ret (.ref I)) _ _ s
  exact wpAny_pure ⟨_, rfl, "itertools.permutations", _, hT, slot_next.lookup, h⟩
def pick (items : Array Value) (ix : List Nat) : Array Value := (ix.map fun i => items.getD i .none).toArray
theorem nums_at {a b c r : Value} {l : List Nat} : ((([a, b, c, r] ++ l.map fun i : Nat => Value.int i 0).toArray.toList.drop 4).map fun | .int n _ => n.toNat | _ => 0) = l := by
  show ((l.map fun i : Nat => Value.int i 0).map fun | .int n _ => n.toNat | _ => 0) = l
  rw [List.map_map]
  induction l with
  | nil => rfl
  | cons x l ih => show x :: _ = _; rw [ih]
/-- the tuple is handed out -/
theorem give_pm {Q : PySem.Fin → Shared → Prop} {ix : List Nat} (ho : s.heap.get? I = some (pmObj T 1 n r xs ys)) (hx : ix.length ≤ 4)
    (hQ : ∀ h', h'.get? I = some (pmObj T 1 n (.ref s.heap.objs.size) xs ys) → h'.get? s.heap.objs.size = some { cls := .type "tuple", data := .seq (pick items ix) } → h'.objs.size = s.heap.objs.size + 1 → (∀ b o, b ≠ I → s.heap.get? b = some o → h'.get? b = some o) → Q (.done (.ret (.ref s.heap.objs.size))) { s with heap := h' }) :
    wpAny (model prog w) A (do let t ← newTuple (ix.map fun i => items.getD i .none); let before ← field (.ref I) 3; setField (.ref I) 3 t; letGo [before] [t]; ret t) Q E s := by
  have hlt := Heap.lt_size ho
  refine wpAny_bind ?_
  simp only [newTuple]
  refine wpAny_newObj_type ?_ (by show (ix.map _).toArray.size ≤ _; rw [List.size_toArray, List.length_map, sizeLine_eq]; omega)
  have ho1 := Heap.get?_push_of_some { cls := .type "tuple", data := .seq (pick items ix) } ho
  refine wpAny_bind (wpAny_field (s := { s with heap := s.heap.push { cls := .type "tuple", data := .seq (pick items ix) } }) ho1 rfl (x := r) rfl ?_)
  refine wpAny_bind (wpAny_setField (s := { s with heap := s.heap.push { cls := .type "tuple", data := .seq (pick items ix) } }) ho1 rfl (by simp) ?_)
  refine wpAny_bind (wpAny_letGo ?_)
  refine wpAny_pure (hQ _ ?_ ?_ ?_ ?_)
  · refine (Heap.get?_update_self _ ho1 rfl).trans ?_
    congr 1
  · exact (Heap.get?_update_other _ _ (Nat.ne_of_lt hlt)).trans (Heap.get?_push_size _ rfl)
  · rw [Heap.size_update, Heap.size_push]
  · intro b o hb e
    exact (Heap.get?_update_other _ _ (Ne.symm hb)).trans (Heap.get?_push_of_some _ e)
theorem next_0 {Q : Option Value → Shared → Prop} (ho : s.heap.get? I = some (pmObj T 0 n r xs ys)) (hi : IsTup s.heap T items) (hn : items.size = n) (hx : xs.length = n) (hn4 : n ≤ 4)
    (hQ : ∀ h', h'.get? I = some (pmObj T 1 n (.ref s.heap.objs.size) xs ys) → h'.get? s.heap.objs.size = some { cls := .type "tuple", data := .seq (pick items xs) } → h'.objs.size = s.heap.objs.size + 1 → (∀ b o, b ≠ I → s.heap.get? b = some o → h'.get? b = some o) → Q (some (.ref s.heap.objs.size)) { s with heap := h' }) :
    wpAny (model prog w) A (pyNext (.ref I)) Q E s := by
  have hT : s.TypeIs (.ref I) "itertools.permutations" := ⟨_, ho, rfl⟩
  unfold pyNext
  refine wpAny_bind (wpAny_attempt (wpAny_callSpecial?_slot (name := Str.ofString "__next__") hT slot_next
    (wpAny_call_entry slot_next hT entry_next ?_ (args_next _))))
  unfold Builtin.«itertools.permutations.__next__»
  refine wpAny_bind (wpAny_pure ?_)
  show wpAny _ _ (field (.ref I) 0 >>= _) _ _ s
  refine wpAny_bind (wpAny_field ho rfl (x := .ref T) rfl ?_)
  obtain ⟨oT, hoT, hcT, kT, hdT⟩ := id hi
  refine wpAny_bind ?_
  unfold Builtin.Itertools.itPoolItems
  refine wpAny_bind (wpAny_seqItems hoT hdT (wpAny_pure ?_))
  refine wpAny_bind ?_
  unfold Builtin.Itertools.itIntField
  refine wpAny_bind (wpAny_field ho rfl (x := .int n 0) rfl (wpAny_pure ?_))
  refine wpAny_bind ?_
  unfold Builtin.Itertools.itNumbersFrom
  refine wpAny_bind (wpAny_load ho ?_)
  refine wpAny_pure ?_
  refine wpAny_bind ?_
  refine wpAny_bind (wpAny_field ho rfl (x := .int 0 0) rfl (wpAny_pure ?_))
  dsimp only
  refine wpAny_bind (wpAny_setField ho rfl (by simp) ?_)
  generalize hg : List.map _ (List.drop 4 _) = nums
  have hnums : nums = xs ++ ys := hg.symm.trans nums_at
  rw [hnums, Int.toNat_natCast, List.take_append_of_le_length (by omega), ← hx, List.take_length]
  have ho1 : (s.heap.update I (Obj.mapFields fun x => x.setIfInBounds 1 (rawInt 1))).get? I = some (pmObj T 1 n r xs ys) := by
    refine (Heap.get?_update_self _ ho rfl).trans ?_
    congr 1
  refine give_pm (s := { s with heap := s.heap.update I (Obj.mapFields fun x => x.setIfInBounds 1 (rawInt 1)) }) (items := items) (ix := xs) ho1 (by omega) fun h' q1 q2 q3 q4 => ?_
  have hsz : (s.heap.update I (Obj.mapFields fun x => x.setIfInBounds 1 (rawInt 1))).objs.size = s.heap.objs.size := Heap.size_update ..
  dsimp only at q1 q2 q3 q4 ⊢
  rw [hsz] at q1 q2 q3 ⊢
  refine ⟨_, rfl, wpAny_pure (hQ h' q1 q2 q3 fun b o hb e => q4 b o hb ((Heap.get?_update_other _ _ (Ne.symm hb)).trans e))⟩
end
end RPm

set_option Elab.async false
set_option linter.all false
set_option maxRecDepth 100000
set_option maxHeartbeats 4000000
namespace RPm
open PySem PySem.Spec PyProof.Rows L2
open Sem (wp)
/-- what remains to be handed out -/
inductive Ch (f : Nat → Nat → List Nat → List Nat → Option (List Nat × List Nat)) (n : Nat) : List Nat → List Nat → List (List Nat) → Prop
  | nil {xs ys : List Nat} : f n n xs ys = none → Ch f n xs ys []
  | cons {xs ys xs' ys' : List Nat} {l : List (List Nat)} : f n n xs ys = some (xs', ys') → xs'.length = n → ys'.length ≤ 4 → Ch f n xs' ys' l → Ch f n xs ys (xs' :: l)
def pmTail : Nat → List (List Nat)
  | 2 => [[1, 0]]
  | 3 => [[0, 2, 1], [1, 0, 2], [1, 2, 0], [2, 0, 1], [2, 1, 0]]
  | 4 => [[0, 1, 3, 2], [0, 2, 1, 3], [0, 2, 3, 1], [0, 3, 1, 2], [0, 3, 2, 1], [1, 0, 2, 3], [1, 0, 3, 2], [1, 2, 0, 3], [1, 2, 3, 0], [1, 3, 0, 2], [1, 3, 2, 0],
    [2, 0, 1, 3], [2, 0, 3, 1], [2, 1, 0, 3], [2, 1, 3, 0], [2, 3, 0, 1], [2, 3, 1, 0], [3, 0, 1, 2], [3, 0, 2, 1], [3, 1, 0, 2], [3, 1, 2, 0], [3, 2, 0, 1], [3, 2, 1, 0]]
  | _ => []
theorem next_1 : ∃ f : Nat → Nat → List Nat → List Nat → Option (List Nat × List Nat),
    (∀ (prog : Program) (w : World) (A : Around) (E : Value → Shared → Prop) (s : Shared) (I T : Addr) (n : Nat) (r : Value) (xs ys : List Nat) (items : Array Value) (Q : Option Value → Shared → Prop),
      A.handled = none → s.heap.get? I = some (pmObj T 1 n r xs ys) → IsTup s.heap T items → items.size = n → xs.length = n → n ≤ 4 →
      (∀ xs' ys', f n n xs ys = some (xs', ys') → xs'.length = n ∧ ys'.length ≤ 4 ∧ ∀ h', h'.get? I = some (pmObj T 1 n (.ref s.heap.objs.size) xs' ys') → h'.get? s.heap.objs.size = some { cls := .type "tuple", data := .seq (pick items xs') } → h'.objs.size = s.heap.objs.size + 1 →
        (∀ b o, b ≠ I → s.heap.get? b = some o → h'.get? b = some o) → Q (some (.ref s.heap.objs.size)) { s with heap := h' }) →
      (f n n xs ys = none → ∀ h', Heap.ExtBut I s.heap h' → Q none { s with heap := h' }) →
      wpAny (model prog w) A (pyNext (.ref I)) Q E s) ∧
    (∀ n, n ≤ 4 → Ch f n (List.range n) (downFrom n) (pmTail n)) := by
  apply Exists.intro
  constructor
  · intro prog w A E s I T n r xs ys items Q hh ho hi hn hx hn4 hS hN
    have hT : s.TypeIs (.ref I) "itertools.permutations" := ⟨_, ho, rfl⟩
    unfold pyNext
    refine wpAny_bind (wpAny_attempt (wpAny_callSpecial?_slot (name := Str.ofString "__next__") hT slot_next
      (wpAny_call_entry slot_next hT entry_next ?_ (args_next _))))
    unfold Builtin.«itertools.permutations.__next__»
    refine wpAny_bind (wpAny_pure ?_)
    show wpAny _ _ (field (.ref I) 0 >>= _) _ _ s
    refine wpAny_bind (wpAny_field ho rfl (x := .ref T) rfl ?_)
    obtain ⟨oT, hoT, hcT, kT, hdT⟩ := id hi
    refine wpAny_bind ?_
    unfold Builtin.Itertools.itPoolItems
    refine wpAny_bind (wpAny_seqItems hoT hdT (wpAny_pure ?_))
    refine wpAny_bind ?_
    unfold Builtin.Itertools.itIntField
    refine wpAny_bind (wpAny_field ho rfl (x := .int n 0) rfl (wpAny_pure ?_))
    refine wpAny_bind ?_
    unfold Builtin.Itertools.itNumbersFrom
    refine wpAny_bind (wpAny_load ho ?_)
    refine wpAny_pure ?_
    refine wpAny_bind ?_
    refine wpAny_bind (wpAny_field ho rfl (x := .int 1 0) rfl (wpAny_pure ?_))
    dsimp only
    generalize hg : List.map _ (List.drop 4 _) = nums
    have hnums : nums = xs ++ ys := hg.symm.trans nums_at
    rw [hnums, Int.toNat_natCast, hn, List.take_append_of_le_length (by omega), ← hx, List.take_length, List.drop_left]
    rw [hx]
    split
    · rename_i e; exact absurd e (by decide)
    · split
      · rename_i xs' ys' hf
        obtain ⟨hl, hl2, hS⟩ := hS xs' ys' hf
        refine wpAny_bind ?_
        unfold Builtin.Itertools.itSetNumbersFrom
        refine wpAny_updateFields ho rfl ?_ ?_
        · have ho1 : (s.heap.update I (Obj.mapFields fun fs => fs.extract 0 4 ++ (List.map (fun n : Nat => rawInt ↑n) (xs' ++ ys')).toArray)).get? I = some (pmObj T 1 n r xs' ys') := by
            refine (Heap.get?_update_self _ ho rfl).trans ?_
            congr 1
            unfold pmObj Obj.mapFields
            simp [rawInt]
          rw [← hl, List.take_length]
          refine give_pm (s := { s with heap := s.heap.update I (Obj.mapFields fun fs => fs.extract 0 4 ++ (List.map (fun n : Nat => rawInt ↑n) (xs' ++ ys')).toArray) }) (items := items) (ix := xs') ho1 (by omega) fun h' q1 q2 q3 q4 => ?_
          have hsz : (s.heap.update I (Obj.mapFields fun fs => fs.extract 0 4 ++ (List.map (fun n : Nat => rawInt ↑n) (xs' ++ ys')).toArray)).objs.size = s.heap.objs.size := Heap.size_update ..
          dsimp only at q1 q2 q3 q4 ⊢
          rw [hsz] at q1 q2 q3 ⊢
          exact ⟨_, rfl, wpAny_pure (hS h' q1 q2 q3 fun b o hb e => q4 b o hb ((Heap.get?_update_other _ _ (Ne.symm hb)).trans e))⟩
        · simp [sizeLine_eq]
          omega
      · rename_i hf
        have hN := hN hf
        refine wpAny_bind (wpAny_setField ho rfl (by simp) ?_)
        unfold Builtin.Itertools.itStop
        refine wpAny_bind ?_
        simp only [newExc, newTuple]
        refine wpAny_bind (wpAny_newObj_type ?_ (by size_fits))
        refine wpAny_bind (m := firstArgMember _ _) (wpAny_of_eq (a := Value.none) (by first | rfl | (simp only [firstArgMember]; rfl)) ?_)
        refine wpAny_newObj_type ?_ (by size_fits)
        simp only [raiseNew]
        refine wpAny_bind (wpAny_handled ?_)
        rw [show A.in1.handled = none from hh]
        refine wpAny_bind (wpAny_pure (wpAny_throw ?_))
        refine wpAny_bind (wpAny_isInstance (T := "StopIteration") (b := true) ⟨_, Heap.get?_push_size _ rfl, rfl⟩ isSubtype_stop ?_)
        exact wpAny_pure (hN _ (((Heap.SameBut.update ..).extBut.push _).push _))
    · rename_i e1 e2; exact absurd rfl e2
  · intro n h
    have : n = 0 ∨ n = 1 ∨ n = 2 ∨ n = 3 ∨ n = 4 := by omega
    rcases this with rfl | rfl | rfl | rfl | rfl
    · exact .nil rfl
    · exact .nil rfl
    · exact .cons rfl rfl (by decide) (.nil rfl)
    · exact .cons rfl rfl (by decide) (.cons rfl rfl (by decide) (.cons rfl rfl (by decide) (.cons rfl rfl (by decide) (.cons rfl rfl (by decide) (.nil rfl)))))
    · repeat (first | exact .nil rfl | refine .cons rfl rfl (by decide) ?_)
end RPm

set_option Elab.async false
set_option linter.all false
set_option maxRecDepth 100000
set_option maxHeartbeats 4000000
namespace RPm
open PySem PySem.Spec PyProof.Rows L2
open Sem (wp)
structure Md (items : Array Value) (S I : Addr) (h : Heap) (dn : List (List Nat)) (as : List Addr) : Prop where
  len : as.length = dn.length
  rise : as.Pairwise (· < ·)
  above : ∀ a ∈ as, I < a ∧ S < a
  at' : ∀ (j : Nat) (a : Addr) (ix : List Nat), as[j]? = some a → dn[j]? = some ix → h.get? a = some { cls := .type "tuple", data := .seq (pick items ix) }
theorem Md.there {items : Array Value} {S I : Addr} {h : Heap} {dn : List (List Nat)} {as : List Addr} (g : Md items S I h dn as) {a : Addr} (ha : a ∈ as) : a < h.objs.size := by
  obtain ⟨j, hj⟩ := List.mem_iff_getElem?.mp ha
  have h1 := (List.getElem?_eq_some_iff.mp hj).1
  rw [g.len] at h1
  exact Heap.lt_size (g.at' j a _ hj (List.getElem?_eq_getElem h1))
theorem Md.keep {items : Array Value} {S I : Addr} {h h' : Heap} {dn : List (List Nat)} {as : List Addr} (g : Md items S I h dn as) (k : ∀ b o, b ≠ S → b ≠ I → h.get? b = some o → h'.get? b = some o) : Md items S I h' dn as :=
  ⟨g.len, g.rise, g.above, fun j a ix h1 h2 => k a _ (Nat.ne_of_gt (g.above a (List.mem_of_getElem? h1)).2) (Nat.ne_of_gt (g.above a (List.mem_of_getElem? h1)).1) (g.at' j a ix h1 h2)⟩
section
variable {prog : Program} {w : World} {A : Around} {s : Shared} {R : Result → Shared → Prop} {items : Array Value} {S I T : Addr} {n : Nat}
theorem step_pm (res : Value) (hSI : S ≠ I) {h : Heap} {tk c : Nat} {acc : Array Value} {as : List Addr} {dn : List (List Nat)} {xs' ys' : List Nat} (hS : h.get? S = some { cls := .type "list", dict := none, data := .seq acc c, slots := #[] })
    (hacc : acc.toList = as.map Value.ref) (hG : Md items S I h dn as) (hI : ∃ o, h.get? I = some o) (hal : as.length ≤ 30)
    (hnext : ∀ (Q : Option Value → Shared → Prop) (E : Value → Shared → Prop), (∀ h', h'.get? I = some (pmObj T 1 n (.ref h.objs.size) xs' ys') → h'.get? h.objs.size = some { cls := .type "tuple", data := .seq (pick items xs') } → h'.objs.size = h.objs.size + 1 →
      (∀ b o, b ≠ I → h.get? b = some o → h'.get? b = some o) → Q (some (.ref h.objs.size)) { s with heap := h', toks := tk }) → wpAny (model prog w) A.in1 (pyNext (.ref I)) Q E { s with heap := h, toks := tk })
    (hk : ∀ (h' : Heap) (c' : Nat), h'.get? S = some { cls := .type "list", dict := none, data := .seq (acc.push (.ref h.objs.size)) c', slots := #[] } → h'.get? I = some (pmObj T 1 n (.ref h.objs.size) xs' ys') →
      (∀ b o, b ≠ S → b ≠ I → h.get? b = some o → h'.get? b = some o) → Md items S I h' (dn ++ [xs']) (as ++ [h.objs.size]) → codeAny (model prog w) A (.builtin "list.extend.loop" ⟨[.ref S, .ref I, res], []⟩) R { s with heap := h', toks := tk }) :
    codeAny (model prog w) A (.builtin "list.extend.loop" ⟨[.ref S, .ref I, res], []⟩) R { s with heap := h, toks := tk } := by
  have hsz : acc.size = as.length := by rw [← Array.length_toList, hacc, List.length_map]
  obtain ⟨oI, hI⟩ := hI
  have hSl := Heap.lt_size hS
  have hIl := Heap.lt_size hI
  refine codeAny_builtin PySem.F.entry_extend_loop ?_
  rw [Around.under_plainId PySem.F.plain_extend_loop _]
  show wpAny _ A.in1 (pyNext (.ref I) >>= _) _ _ _
  refine wpAny_bind (hnext _ _ fun h' q1 q2 q3 q4 => ?_)
  have hS' := q4 S _ hSI hS
  show wpAny _ A.in1 (updateSeq S (·.push (Value.ref h.objs.size)) >>= _) _ _ _
  have up : ∀ b o, b ≠ S → h'.get? b = some o → (h'.update S (Obj.mapSeq (·.push (Value.ref h.objs.size)))).get? b = some o := fun b o hb e => (Heap.get?_update_other _ _ (Ne.symm hb)).trans e
  refine wpAny_bind ?_
  refine wpAny_updateSeq hS' rfl (wpAny_pure ⟨plainId_quiet PySem.F.plain_extend_loop _, hk _ _ (Heap.get?_update_self _ hS' rfl) (up I _ (Ne.symm hSI) q1) (fun b o h1 h2 e => up b o h1 (q4 b o h2 e)) ⟨?_, ?_, ?_, ?_⟩⟩) (by rw [hsz, sizeLine_eq]; omega) (by show (acc.push (Value.ref h.objs.size)).size ≤ sizeLine + 1; rw [Array.size_push, hsz, sizeLine_eq]; omega)
  · rw [List.length_append, List.length_append, hG.len]; rfl
  · refine List.pairwise_append.mpr ⟨hG.rise, List.pairwise_singleton _ _, fun a ha b hb => ?_⟩
    rw [List.mem_singleton.mp hb]
    exact hG.there ha
  · intro a ha
    rcases List.mem_append.mp ha with ha | ha
    · exact hG.above a ha
    · rw [List.mem_singleton.mp ha]; exact ⟨hIl, hSl⟩
  · intro j b ix hj hd
    rcases Nat.lt_trichotomy j as.length with h1 | h1 | h1
    · rw [List.getElem?_append_left h1] at hj
      rw [List.getElem?_append_left (by rw [← hG.len]; exact h1)] at hd
      have hb := hG.above b (List.mem_of_getElem? hj)
      exact up b _ (Nat.ne_of_gt hb.2) (q4 b _ (Nat.ne_of_gt hb.1) (hG.at' j b ix hj hd))
    · subst h1
      have hb : h.objs.size = b := by simpa using hj
      have hx : xs' = ix := by rw [hG.len] at hd; simpa using hd
      subst hb hx
      exact up _ _ (Nat.ne_of_gt hSl) q2
    · have hnone : (as ++ [h.objs.size])[j]? = none := List.getElem?_eq_none (by rw [List.length_append, List.length_singleton]; omega)
      rw [hnone] at hj; cases hj
variable {f : Nat → Nat → List Nat → List Nat → Option (List Nat × List Nat)}
abbrev NextSpec (f : Nat → Nat → List Nat → List Nat → Option (List Nat × List Nat)) : Prop :=
    (∀ (prog : Program) (w : World) (A : Around) (E : Value → Shared → Prop) (s : Shared) (I T : Addr) (n : Nat) (r : Value) (xs ys : List Nat) (items : Array Value) (Q : Option Value → Shared → Prop),
      A.handled = none → s.heap.get? I = some (pmObj T 1 n r xs ys) → IsTup s.heap T items → items.size = n → xs.length = n → n ≤ 4 →
      (∀ xs' ys', f n n xs ys = some (xs', ys') → xs'.length = n ∧ ys'.length ≤ 4 ∧ ∀ h', h'.get? I = some (pmObj T 1 n (.ref s.heap.objs.size) xs' ys') → h'.get? s.heap.objs.size = some { cls := .type "tuple", data := .seq (pick items xs') } → h'.objs.size = s.heap.objs.size + 1 →
        (∀ b o, b ≠ I → s.heap.get? b = some o → h'.get? b = some o) → Q (some (.ref s.heap.objs.size)) { s with heap := h' }) →
      (f n n xs ys = none → ∀ h', Heap.ExtBut I s.heap h' → Q none { s with heap := h' }) →
      wpAny (model prog w) A (pyNext (.ref I)) Q E s)
theorem loop_pm (sp : NextSpec f) (res : Value) (hh : A.handled = none) (hSI : S ≠ I) (hTS : T ≠ S) (hTI : T ≠ I) (hn : items.size = n) (hn4 : n ≤ 4) {h₁ : Heap} {tk : Nat} {L : List (List Nat)} (hL : L.length ≤ 30)
    (hR : ∀ h' acc c as, (∀ b o, b ≠ S → b ≠ I → h₁.get? b = some o → h'.get? b = some o) → h'.get? S = some { cls := .type "list", dict := none, data := .seq acc c, slots := #[] } → acc.toList = as.map Value.ref → Md items S I h' L as → R (.ok (.ret res)) { s with heap := h', toks := tk }) :
    ∀ (l : List (List Nat)) (xs ys : List Nat) (r : Value) (h : Heap) (c : Nat) (acc : Array Value) (as : List Addr) (dn : List (List Nat)), Ch f n xs ys l → xs.length = n → dn ++ l = L → h.get? I = some (pmObj T 1 n r xs ys) → IsTup h T items →
      (∀ b o, b ≠ S → b ≠ I → h₁.get? b = some o → h.get? b = some o) → h.get? S = some { cls := .type "list", dict := none, data := .seq acc c, slots := #[] } → acc.toList = as.map Value.ref → Md items S I h dn as →
      codeAny (model prog w) A (.builtin "list.extend.loop" ⟨[.ref S, .ref I, res], []⟩) R { s with heap := h, toks := tk } := by
  intro l
  induction l with
  | nil =>
    intro xs ys r h c acc as dn ch hx hl hI hT hkeep hS hacc hG
    cases ch with
    | nil hf =>
      refine codeAny_builtin PySem.F.entry_extend_loop ?_
      rw [Around.under_plainId PySem.F.plain_extend_loop _]
      show wpAny _ A.in1 (pyNext (.ref I) >>= _) _ _ _
      refine wpAny_bind (sp prog w A.in1 _ { s with heap := h, toks := tk } I T n r xs ys items _ hh hI hT hn hx hn4 (fun xs' ys' e => by rw [hf] at e; cases e) fun _ h' he => ?_)
      rw [List.append_nil] at hl
      subst hl
      exact wpAny_pure (hR h' acc c as (fun b o h1 h2 e => he b o h2 (hkeep b o h1 h2 e)) (he S _ hSI hS) hacc (hG.keep fun b o h1 h2 e => he b o h2 e))
  | cons x l ih =>
    intro xs ys r h c acc as dn ch hx hl hI hT hkeep hS hacc hG
    cases ch with
    | cons hf hx' hy' ch' =>
      rename_i ys'
      have hle : dn.length ≤ 30 := by rw [← hl, List.length_append] at hL; omega
      refine step_pm res hSI hS hacc hG ⟨_, hI⟩ (by rw [hG.len]; exact hle) (T := T) (n := n) (xs' := x) (ys' := ys') (fun Q E hQ => ?_) fun h' c' q1 q2 q3 q4 => ?_
      · refine sp prog w A.in1 E { s with heap := h, toks := tk } I T n r xs ys items Q hh hI hT hn hx hn4 (fun xs2 ys2 e => ?_) fun e => by rw [hf] at e; cases e
        rw [hf] at e
        cases e
        exact ⟨hx', hy', hQ⟩
      · refine ih x ys' _ h' c' _ _ _ ch' hx' (by rw [List.append_assoc]; exact hl) q2 ?_ (fun b o h1 h2 e => q3 b o h1 h2 (hkeep b o h1 h2 e)) q1 (by rw [Array.toList_push, hacc, List.map_append]; rfl) q4
        obtain ⟨oT, e, z⟩ := hT
        exact ⟨oT, q3 T oT hTS hTI e, z⟩
end
end RPm

set_option Elab.async false
set_option linter.all false
set_option maxRecDepth 100000
set_option maxHeartbeats 4000000
namespace RPm
open PySem PySem.Spec PyProof.Rows L2
open Sem (wp)
def pmAll (n : Nat) : List (List Nat) := List.range n :: pmTail n
theorem pmAll_len {n : Nat} (h : n ≤ 4) : (pmAll n).length ≤ 30 := by
  have : n = 0 ∨ n = 1 ∨ n = 2 ∨ n = 3 ∨ n = 4 := by omega
  rcases this with rfl | rfl | rfl | rfl | rfl <;> decide
section
variable {prog : Program} {w : World} {A : Around} {s : Shared} {R : Result → Shared → Prop} {items : Array Value} {S I T : Addr} {n : Nat} {E : Value → Shared → Prop}
theorem start_pm (res : Value) (hh : A.handled = none) (hSI : S ≠ I) (hTS : T ≠ S) (hTI : T ≠ I) (hn : items.size = n) (hn4 : n ≤ 4) {h : Heap} {tk c : Nat}
    (hI : h.get? I = some (pmObj T 0 n .none (List.range n) (downFrom n))) (hT : IsTup h T items) (hS : h.get? S = some { cls := .type "list", dict := none, data := .seq #[] c, slots := #[] })
    (hR : ∀ h' acc c as, (∀ b o, b ≠ S → b ≠ I → h.get? b = some o → h'.get? b = some o) → h'.get? S = some { cls := .type "list", dict := none, data := .seq acc c, slots := #[] } → acc.toList = as.map Value.ref → Md items S I h' (pmAll n) as → R (.ok (.ret res)) { s with heap := h', toks := tk }) :
    codeAny (model prog w) A (.builtin "list.extend.loop" ⟨[.ref S, .ref I, res], []⟩) R { s with heap := h, toks := tk } := by
  obtain ⟨f, sp, ch⟩ := next_1
  refine step_pm (items := items) (n := n) (T := T) (xs' := List.range n) (ys' := downFrom n) (as := []) (dn := []) res hSI hS rfl ⟨rfl, .nil, (fun a ha => nomatch ha), fun j a ix h => by simp at h⟩ ⟨_, hI⟩ (Nat.zero_le _) (fun Q E hQ => ?_) fun h' c' q1 q2 q3 q4 => ?_
  · exact next_0 (s := { s with heap := h, toks := tk }) hI hT hn (List.length_range ..) hn4 hQ
  · refine loop_pm (h₁ := h) (L := pmAll n) sp res hh hSI hTS hTI hn hn4 (pmAll_len hn4) hR (pmTail n) (List.range n) (downFrom n) _ h' c' _ [h.objs.size] [List.range n] (ch n hn4) (List.length_range ..) rfl q2 ?_ q3 q1 rfl q4
    obtain ⟨oT, e, z⟩ := hT
    exact ⟨oT, q3 T oT hTS hTI e, z⟩
theorem extend_pm (res : Value) (hh : A.handled = none) (hSI : S ≠ I) (hTS : T ≠ S) (hTI : T ≠ I) (hn : items.size = n) (hn4 : n ≤ 4) {c : Nat}
    (hI : s.heap.get? I = some (pmObj T 0 n .none (List.range n) (downFrom n))) (hT : IsTup s.heap T items) (hS : s.heap.get? S = some { cls := .type "list", dict := none, data := .seq #[] c, slots := #[] })
    (hR : ∀ h' acc c as, (∀ b o, b ≠ S → b ≠ I → s.heap.get? b = some o → h'.get? b = some o) → h'.get? S = some { cls := .type "list", dict := none, data := .seq acc c, slots := #[] } → acc.toList = as.map Value.ref → Md items S I h' (pmAll n) as → R (.ok (.ret res)) { s with heap := h' }) :
    wpAny (model prog w) A.in1 (Builtin.List.listExtendWith (.ref S) (.ref I) res)
      (fun fin s' => match fin with | .done f => R (.ok f) s' | .again c' => c'.quiet = true ∧ codeAny (model prog w) A c' R s') (fun e s' => R (.error e) s') s := by
  have hTy : s.TypeIs (.ref I) "itertools.permutations" := ⟨_, hI, rfl⟩
  unfold Builtin.List.listExtendWith
  refine wpAny_bind (wpAny_typeOf hTy ?_)
  have h1 : Builtin.List.listSameRef (.ref S) (.ref I) = false := by simp [Builtin.List.listSameRef, hSI]
  have h2 : (Value.type "itertools.permutations" == Value.type "list") = false := by decide
  have h3 : (Value.type "itertools.permutations" == Value.type "tuple") = false := by decide
  simp only [h1, h2, h3, Bool.or_false, Bool.false_eq_true, if_false]
  refine wpAny_bind (iter_pm hI ?_)
  refine wpAny_bind (wpAny_holding ?_)
  unfold Builtin.List.listLengthHint
  refine wpAny_bind (wpAny_specialOf hTy no_len ?_)
  show wpAny _ A.in1 (specialOf (Value.ref I) (Str.ofString "__length_hint__") >>= _) _ _ _
  refine wpAny_bind (wpAny_specialOf hTy no_hint ?_)
  refine wpAny_pure ?_
  refine wpAny_ite_split (fun _ => ?_) (fun _ => wpAny_pure ⟨plainId_quiet PySem.F.plain_extend_loop _, start_pm (tk := s.toks) (h := s.heap) res hh hSI hTS hTI hn hn4 hI hT hS fun h' acc c as k1 k2 k3 k4 => hR h' acc c as k1 k2 k3 k4⟩)
  refine wpAny_bind (wpAny_rule ?_)
  refine wpAny_bind ?_
  show wpAny _ _ (updateSeq S (·.push .none) >>= fun _ => updateSeq S (·.pop)) _ _ _
  refine wpAny_bind (wpAny_updateSeq hS rfl ?_)
  have hS₂ := Heap.get?_update_self (Obj.mapSeq (·.push Value.none)) hS rfl
  refine wpAny_updateSeq (hz := by seq_fits) hS₂ rfl ?_
  have hS₃ := Heap.get?_update_self (Obj.mapSeq (·.pop)) hS₂ rfl
  have up : ∀ b o, b ≠ S → s.heap.get? b = some o → ((s.heap.update S (Obj.mapSeq (·.push Value.none))).update S (Obj.mapSeq (·.pop))).get? b = some o := fun b o hb e =>
    (Heap.get?_update_other _ _ (Ne.symm hb)).trans ((Heap.get?_update_other _ _ (Ne.symm hb)).trans e)
  refine wpAny_pure ⟨plainId_quiet PySem.F.plain_extend_loop _, start_pm (tk := s.toks) res hh hSI hTS hTI hn hn4 (up I _ (Ne.symm hSI) hI) ?_ hS₃ fun h' acc c as k1 k2 k3 k4 => hR h' acc c as (fun b o z1 z2 e => k1 b o z1 z2 (up b o z1 e)) k2 k3 k4⟩
  obtain ⟨oT, e, z⟩ := hT
  exact ⟨oT, up T oT hTS e, z⟩
/-- list(p), p a fresh permutations object -/
theorem call_list_pm {Q : Value → Shared → Prop} (hh : A.handled = none) (hTI : T ≠ I) (hn : items.size = n) (hn4 : n ≤ 4)
    (hI : s.heap.get? I = some (pmObj T 0 n .none (List.range n) (downFrom n))) (hT : IsTup s.heap T items)
    (hQ : ∀ h' acc c as, (∀ b o, b ≠ I → s.heap.get? b = some o → h'.get? b = some o) → h'.get? s.heap.objs.size = some { cls := .type "list", dict := none, data := .seq acc c, slots := #[] } → acc.toList = as.map Value.ref → Md items s.heap.objs.size I h' (pmAll n) as → Q (.ref s.heap.objs.size) { s with heap := h' }) :
    wpAny (model prog w) A (call (.type "list") [.ref I]) Q E s := by
  refine callType_codes (Q₁ := fun obj s₁ => obj = .ref s.heap.objs.size ∧ s₁ = { s with heap := s.heap.push { cls := .type "list", data := .seq #[] } }) PySem.F.called_list (PySem.F.typeCall_list_1 _) PySem.F.entry_list_init
    (code_list_new _ ⟨rfl, rfl⟩) fun obj s₁ h₁ => ?_
  obtain ⟨rfl, rfl⟩ := h₁
  have hS : (s.heap.push { cls := .type "list", data := .seq #[] }).get? s.heap.objs.size = some { cls := .type "list", data := .seq #[] } := Heap.get?_push_size _ rfl
  refine ⟨⟨_, hS, rfl⟩, PySem.F.args_list_init_2 _ _, ?_⟩
  have hIl := Heap.lt_size hI
  have hTl : T < s.heap.objs.size := let ⟨_, e, _⟩ := hT; Heap.lt_size e
  show wpAny _ _ (do let old ← Builtin.List.listItems (.ref s.heap.objs.size); Builtin.List.listUpdate (.ref s.heap.objs.size) (fun _ => #[]); letGo old.toList.reverse; Builtin.List.listExtendWith (.ref s.heap.objs.size) (.ref I) .none) _ _ _
  refine wpAny_bind ?_
  unfold Builtin.List.listItems
  refine wpAny_bind (wpAny_seqItems hS rfl (wpAny_pure ?_))
  show wpAny _ _ (updateSeq s.heap.objs.size (fun _ => #[]) >>= fun _ => letGo (#[] : Array Value).toList.reverse >>= fun _ => Builtin.List.listExtendWith (.ref s.heap.objs.size) (.ref I) .none) _ _ _
  refine wpAny_bind (wpAny_updateSeq hS rfl ?_)
  have hS₂ := Heap.get?_update_self (Obj.mapSeq (fun _ => (#[] : Array Value))) hS rfl
  have oth : ∀ b o, b ≠ s.heap.objs.size → (s.heap.push { cls := .type "list", data := .seq #[] }).get? b = some o → ((s.heap.push { cls := .type "list", data := .seq #[] }).update s.heap.objs.size (Obj.mapSeq (fun _ => (#[] : Array Value)))).get? b = some o :=
    fun b o hb e => (Heap.get?_update_other _ _ (Ne.symm hb)).trans e
  refine wpAny_bind (wpAny_letGo ?_)
  refine extend_pm (A := A.in1) (T := T) (n := n) (items := items) .none hh (Nat.ne_of_gt hIl) (Nat.ne_of_lt hTl) hTI hn hn4 (oth I _ (Nat.ne_of_lt hIl) (Heap.get?_push_of_some _ hI)) ?_ hS₂ fun h' acc c as k1 k2 k3 k4 => ⟨rfl, ?_⟩
  · obtain ⟨oT, e, z⟩ := hT
    exact ⟨oT, oth T oT (Nat.ne_of_lt hTl) (Heap.get?_push_of_some _ e), z⟩
  · exact hQ h' acc c as (fun b o hb e => k1 b o (Nat.ne_of_lt (Heap.lt_size e)) hb (oth b o (Nat.ne_of_lt (Heap.lt_size e)) (Heap.get?_push_of_some _ e))) k2 k3 k4
end
end RPm

set_option Elab.async false
set_option linter.all false
set_option maxRecDepth 100000
set_option maxHeartbeats 4000000
namespace RPm
open PySem PySem.Spec PyProof.Rows L2
open Sem (wp)
def updL (H : Hp) : List Addr → List (List V) → Hp
  | a :: as, t :: ts => updL (upd H a (.tup t)) as ts
  | _, _ => H
section
variable {X : Cx} {pins : List (Addr × Obj)} {σ : L2.St} {H : Hp} {s : Shared}
/-- many tuples are laid -/
theorem lay_tups {h' : Heap} {t' : Nat} : ∀ (as : List Addr) (ts : List (List V)) {H : Hp} {s : Shared}, L2.Inv X pins σ H s → as.length = ts.length → (∀ b o, s.heap.get? b = some o → h'.get? b = some o) → as.Pairwise (· < ·) → (∀ a ∈ as, s.heap.get? a = none) → (∀ a ∈ as, H a = none) →
    (∀ (j : Nat) a t, as[j]? = some a → ts[j]? = some t → ∃ us : List Value, Vals t us ∧ t.length ≤ 4 ∧ IsTup h' a us.toArray) → L2.Inv X pins σ (updL H as ts) { s with heap := h', toks := t' }
  | [], [], H, s, I, _, k, _, _, _, _ => I.kept k
  | [], _ :: _, _, _, _, h, _, _, _, _, _ => by cases h
  | _ :: _, [], _, _, _, h, _, _, _, _, _ => by cases h
  | a :: as, t :: ts, H, s, I, hl, k, hp, hn, hH, ht => by
    obtain ⟨G, g1, g2⟩ := restrict h' fun b => decide (b ∉ as)
    have han : a ∉ as := fun z => Nat.lt_irrefl _ ((List.pairwise_cons.mp hp).1 a z)
    have ga : G.get? a = h'.get? a := g1 a (decide_eq_true han)
    have gk : ∀ b o, s.heap.get? b = some o → G.get? b = some o := fun b o e => by
      have hb : b ∉ as := fun z => by rw [hn b (List.mem_cons_of_mem _ z)] at e; cases e
      rw [g1 b (decide_eq_true hb)]; exact k b o e
    have gs : ∀ b o, G.get? b = some o → h'.get? b = some o := fun b o e => by
      by_cases hb : b ∈ as
      · rw [g2 b (decide_eq_false fun z => z hb)] at e; cases e
      · rw [← g1 b (decide_eq_true hb)]; exact e
    obtain ⟨us, u1, u2, u3⟩ := ht 0 a t rfl rfl
    have I1 : L2.Inv X pins σ (upd H a (.tup t)) { s with heap := G, toks := t' } := I.laidN (t' := t') gk (hn a (List.mem_cons_self ..)) (hH a (List.mem_cons_self ..))
      (show ObjOk X.prog X.w _ _ _ (.tup t) from ⟨by rw [sizeLine_eq]; omega, us, u1, by obtain ⟨o, e, z⟩ := u3; exact ⟨o, ga.trans e, z⟩⟩)
    refine lay_tups (h' := h') (t' := t') as ts (s := { s with heap := G, toks := t' }) I1 (by simpa using hl) gs (List.pairwise_cons.mp hp).2 (fun b hb => g2 b (decide_eq_false fun z => z hb)) (fun b hb => ?_) fun j b u h1 h2 => ht (j + 1) b u (by simpa using h1) (by simpa using h2)
    rw [upd_ne (fun z : b = a => han (by rw [← z]; exact hb))]
    exact hH b (List.mem_cons_of_mem _ hb)
def pickV (ys : List V) (ix : List Nat) : List V := ix.map fun i => ys.getD i .non
def tPm (ta : TE) : TE := fun σ H Q => ta σ H fun x H1 => ∃ p ys, x = .ref p ∧ H1 p = some (.lst ys) ∧ ys.length ≤ 4 ∧ ∀ q as, H1 q = none → as.length = (pmAll ys.length).length → as.Pairwise (· < ·) → (∀ a ∈ as, a ≠ q ∧ H1 a = none) →
  Q (.ref q) (updL (upd H1 q (.lst (as.map V.ref))) as ((pmAll ys.length).map (pickV ys)))
theorem refs_vals : ∀ as : List Addr, Vals (as.map V.ref) (as.map Value.ref)
  | [] => .nil
  | a :: as => .cons rfl (refs_vals as)
theorem pick_vals {ys : List V} {its : List Value} (r : Vals ys its) : ∀ ix : List Nat, (∀ i ∈ ix, i < ys.length) → Vals (pickV ys ix) (ix.map fun i => its.toArray.getD i .none)
  | [], _ => .nil
  | i :: ix, h => by
    have hi := h i (List.mem_cons_self ..)
    obtain ⟨u, hu, ru⟩ := r.get (i := i) (x := ys[i]) (List.getElem?_eq_getElem hi)
    refine .cons ?_ (pick_vals r ix fun k hk => h k (List.mem_cons_of_mem _ hk))
    have e1 : ys.getD i .non = ys[i] := by rw [List.getD_eq_getElem?_getD, List.getElem?_eq_getElem hi]; rfl
    have e2 : its.toArray.getD i .none = u := by
      rw [Array.getD_eq_getD_getElem?, List.getElem?_toArray, hu]; rfl
    show L2.RelV (ys.getD i .non) (its.toArray.getD i .none)
    rw [e1, e2]; exact ru
theorem pm_in {n : Nat} (h : n ≤ 4) : ∀ ix ∈ pmAll n, ix.length ≤ 4 ∧ ∀ i ∈ ix, i < n := by
  have : n = 0 ∨ n = 1 ∨ n = 2 ∨ n = 3 ∨ n = 4 := by omega
  rcases this with rfl | rfl | rfl | rfl | rfl <;> decide
variable {a : Expr} {ta : TE}
theorem pe_listPm {p p2 pos q : Pos} (hc : X.calm = true) (hg : Gl X "list") (hm : X.mg "list" = none) (hg2 : Gl X "permutations") (hm2 : X.mg "permutations" = some (.type "itertools.permutations")) (ha : PE X a ta)
    (na : starEach [a] X.env = (false, eval a X.env) :: starEach [] X.env := by rfl)
    (nb : starEach [.Call (.Name "permutations" p2) [a] [] q] X.env = (false, eval (.Call (.Name "permutations" p2) [a] [] q) X.env) :: starEach [] X.env := by rfl) :
    PE X (.Call (.Name "list" p) [.Call (.Name "permutations" p2) [a] [] q] [] pos) (tPm ta) := by
  refine ⟨fun pins s σ H Q I h => ?_⟩
  refine Call_ (ld_blt I hg hm boot_list (PyProof.Rows.callWith_type1 (args_cons (Call_ (ld_glob I hg2 hm2 (PyProof.Rows.callWith_type1 (one_arg ha I h (fun v s2 x H2 I2 r qq => ?_) na) na) (by decide))) nb) nb))
  obtain ⟨pp, ys, rfl, hl, h4, qq⟩ := qq
  cases r
  obtain ⟨hz, its, k, rv, hget⟩ := (show ObjOk X.prog X.w H2 s2.heap pp (.lst ys) from I2.hok pp _ hl)
  have hn : its.toArray.size = ys.length := by rw [List.size_toArray]; exact rv.length.symm
  refine callType_new called_pm (by decide +kernel) (typeCall_1 _) (newCall_1 _) (fun obj => PySem.F.args_object_init_2 obj _) entry_new (meets_new pp its.toArray k (by rw [hn]; exact h4)) ?_
  refine ⟨hget, fun h' T J hk hTn hJn hTJ hT hJ => ⟨⟨_, hJ, rfl⟩, args_nil ?_⟩⟩
  rw [hn] at hJ
  refine call_list_pm (s := { s2 with heap := h' }) (n := ys.length) (items := its.toArray) (I2.ok.hd hc) (Nat.ne_of_lt hTJ) hn h4 hJ hT fun h'' acc c as k1 k2 k3 k4 => ?_
  have keep : ∀ b o, s2.heap.get? b = some o → h''.get? b = some o := fun b o e => k1 b o (fun z => by rw [z, hJn] at e; cases e) (hk b o e)
  have fr : ∀ b, h'.objs.size ≤ b → s2.heap.get? b = none := fun b hb => none_of hk hb
  have frH : ∀ b, h'.objs.size ≤ b → H2 b = none := fun b hb => I2.hok.gone (fr b hb)
  have up : ∀ b ∈ as, h'.objs.size < b := fun b hb => (k4.above b hb).2
  obtain ⟨G, g1, g2⟩ := restrict h'' fun b => decide (b ∉ as)
  have hSa : h'.objs.size ∉ as := fun z => Nat.lt_irrefl _ (up _ z)
  have gk : ∀ b o, s2.heap.get? b = some o → G.get? b = some o := fun b o e => by
    have hb : b ∉ as := fun z => by rw [fr b (Nat.le_of_lt (up b z))] at e; cases e
    rw [g1 b (decide_eq_true hb)]; exact keep b o e
  have gs : ∀ b o, G.get? b = some o → h''.get? b = some o := fun b o e => by
    by_cases hb : b ∈ as
    · rw [g2 b (decide_eq_false fun z => z hb)] at e; cases e
    · rw [← g1 b (decide_eq_true hb)]; exact e
  have hlen : as.length ≤ 30 := by rw [k4.len]; exact pmAll_len h4
  have I3 : L2.Inv X pins σ (upd H2 h'.objs.size (.lst (as.map V.ref))) { s2 with heap := G, toks := s2.toks } := I2.laidN (t' := s2.toks) gk (fr _ (Nat.le_refl _)) (frH _ (Nat.le_refl _))
    (show ObjOk X.prog X.w _ _ _ (.lst (as.map V.ref)) from ⟨by rw [List.length_map, sizeLine_eq]; omega, as.map Value.ref, c, refs_vals as, by rw [g1 _ (decide_eq_true hSa), k2, ← k3]⟩)
  have I4 := lay_tups (h' := h'') (t' := s2.toks) as ((pmAll ys.length).map (pickV ys)) I3 (by rw [List.length_map]; exact k4.len) gs k4.rise (fun b hb => g2 b (decide_eq_false fun z => z hb))
    (fun b hb => by rw [upd_ne (Nat.ne_of_gt (up b hb))]; exact frH b (Nat.le_of_lt (up b hb))) (fun j b t h1 h2 => by
      rw [List.getElem?_map] at h2
      cases e : (pmAll ys.length)[j]? with
      | none => rw [e] at h2; cases h2
      | some ix =>
        rw [e] at h2
        cases h2
        have hin := pm_in h4 ix (List.mem_of_getElem? e)
        exact ⟨_, pick_vals rv ix hin.2, by unfold pickV; rw [List.length_map]; exact hin.1, ⟨_, k4.at' j b ix h1 e, rfl, _, rfl⟩⟩)
  exact ⟨.ref h'.objs.size, _, I4, rfl, qq _ as (frH _ (Nat.le_refl _)) k4.len k4.rise fun b hb => ⟨Nat.ne_of_gt (up b hb), frH b (Nat.le_of_lt (up b hb))⟩⟩
end
end RPm

set_option Elab.async false
set_option linter.all false
set_option maxRecDepth 100000
set_option maxHeartbeats 4000000
namespace RB
open PySem PySem.Spec PyProof.Rows L2
def pickW (ws : List W) (ix : List Nat) : W := .tup (ix.map fun i => ws.getD i .non)
def fPerms (w : W) (st : Sto) : Res W := match w with
  | .ref n => (match st.c[n]? with
    | some (.lst ws) => if ws.length ≤ 4 then .ok (.ref st.c.length) (st.push (.lst ((RPm.pmAll ws.length).map (pickW ws)))) else .err
    | _ => .err)
  | _ => .err
section
variable {X : Cx} {Γ : Gm} {Wx : WX} {a : Expr} {ea : Ev}
theorem updL_sim {K : PySem.W.Frag} {μ : List Addr} {st : Sto} : ∀ (as : List Addr) (ts : List (List V)) {H : Hp}, as.length = ts.length → as.Pairwise (· < ·) → (∀ a ∈ as, H a = none) → Sim Γ μ st H → 
    Ext Γ.K μ μ H (RPm.updL H as ts) ∧ Sim Γ μ st (RPm.updL H as ts) ∧ ∀ (j : Nat) a t, as[j]? = some a → ts[j]? = some t → SqT Γ.K (RPm.updL H as ts) a t
  | [], [], H, _, _, _, s => ⟨Ext.refl, s, fun j a t h => by simp at h⟩
  | [], _ :: _, _, h, _, _, _ => by cases h
  | _ :: _, [], _, h, _, _, _ => by cases h
  | a :: as, t :: ts, H, hl, hp, hn, s => by
    have ha := hn a (List.mem_cons_self ..)
    have s1 : Sim Γ μ st (upd H a (.tup t)) := s.other ha
    have e1 : Ext Γ.K μ μ H (upd H a (.tup t)) := ext_upd (.inl ha)
    have han : a ∉ as := fun z => Nat.lt_irrefl _ ((List.pairwise_cons.mp hp).1 a z)
    obtain ⟨e2, s2, h2⟩ := updL_sim (K := K) as ts (by simpa using hl) (List.pairwise_cons.mp hp).2 (fun b hb => by
      rw [upd_ne (fun z : b = a => han (by rw [← z]; exact hb))]
      exact hn b (List.mem_cons_of_mem _ hb)) s1
    refine ⟨e1.trans e2, s2, fun j b u h1 h3 => ?_⟩
    cases j with
    | zero =>
      simp at h1 h3
      subst h1 h3
      exact e2.tup _ _ (.inl (.inl upd_same))
    | succ j => exact h2 j b u (by simpa using h1) (by simpa using h3)
theorem reps_pick {K : PySem.W.Frag} {μ : List Addr} {H : Hp} {ws : List W} {xs : List V} (r : Reps K μ H ws xs) : ∀ ix : List Nat, Reps K μ H (ix.map fun i => ws.getD i .non) (RPm.pickV xs ix)
  | [] => .nil
  | i :: ix => by
    refine .cons ?_ (reps_pick r ix)
    show Rep K μ H (ws.getD i .non) (xs.getD i .non)
    rw [List.getD_eq_getElem?_getD, List.getD_eq_getElem?_getD]
    cases e : ws[i]? with
    | none =>
      have : xs[i]? = none := by
        rw [List.getElem?_eq_none_iff] at e ⊢
        rw [← r.length]; exact e
      rw [this]; exact .non
    | some w =>
      obtain ⟨v, h1, h2⟩ := r.get e
      rw [h1]; exact h2
theorem reps_tups {K : PySem.W.Frag} {μ : List Addr} {H : Hp} {ws : List W} {xs : List V} (r : Reps K μ H ws xs) : ∀ (as : List Addr) (ixs : List (List Nat)), as.length = ixs.length → (∀ (j : Nat) a t, as[j]? = some a → (ixs.map (RPm.pickV xs))[j]? = some t → SqT K H a t) → Reps K μ H (ixs.map (pickW ws)) (as.map V.ref)
  | [], [], _, _ => .nil
  | [], _ :: _, h, _ => by cases h
  | _ :: _, [], h, _ => by cases h
  | a :: as, ix :: ixs, hl, h => .cons (.tup (h 0 a _ rfl rfl) (reps_pick r ix)) (reps_tups r as ixs (by simpa using hl) fun j b t h1 h2 => h (j + 1) b t (by simpa using h1) (by simpa using h2))
theorem updL_ne {r : Addr} : ∀ (as : List Addr) (ts : List (List V)) {H : Hp}, (∀ a ∈ as, a ≠ r) → RPm.updL H as ts r = H r
  | [], _, _, _ => by unfold RPm.updL; rfl
  | a :: as, [], _, _ => by unfold RPm.updL; rfl
  | a :: as, t :: ts, H, h => by
    show RPm.updL (upd H a (.tup t)) as ts r = H r
    rw [updL_ne as ts fun b hb => h b (List.mem_cons_of_mem _ hb), upd_ne (Ne.symm (h a (List.mem_cons_self ..)))]
theorem updL_comm {r : Addr} {o : HO} : ∀ (as : List Addr) (ts : List (List V)) {H : Hp}, (∀ a ∈ as, a ≠ r) → RPm.updL (upd H r o) as ts = upd (RPm.updL H as ts) r o
  | [], _, _, _ => by unfold RPm.updL; rfl
  | a :: as, [], _, _ => by unfold RPm.updL; rfl
  | a :: as, t :: ts, H, h => by
    show RPm.updL (upd (upd H r o) a (.tup t)) as ts = upd (RPm.updL (upd H a (.tup t)) as ts) r o
    rw [← updL_comm as ts fun b hb => h b (List.mem_cons_of_mem _ hb)]
    congr 1
    have ne := h a (List.mem_cons_self ..)
    funext b
    by_cases hb : b = a
    · subst hb; rw [upd_same, upd_ne ne, upd_same]
    · rw [upd_ne hb]
      by_cases hr : b = r
      · subst hr; rw [upd_same, upd_same]
      · rw [upd_ne hr, upd_ne hr, upd_ne hb]
theorem qe_listPm {p p2 pos q : Pos} (hK : X.K = Γ.K) (hc : X.calm = true) (hg : Gl X "list") (hm : X.mg "list" = none) (hg2 : Gl X "permutations") (hm2 : X.mg "permutations" = some (.type "itertools.permutations")) (ha : PE X a (tE Γ Wx ea))
    (na : starEach [a] X.env = (false, eval a X.env) :: starEach [] X.env := by rfl)
    (nb : starEach [.Call (.Name "permutations" p2) [a] [] q] X.env = (false, eval (.Call (.Name "permutations" p2) [a] [] q) X.env) :: starEach [] X.env := by rfl) :
    PE X (.Call (.Name "list" p) [.Call (.Name "permutations" p2) [a] [] q] [] pos) (tE Γ Wx (eU fPerms ea)) :=
  PE_imp (RPm.pe_listPm hc hg hm hg2 hm2 ha na nb) fun σ H Q ⟨μ, l, st, hs, hl, h⟩ => tG_bind hs hl h _ fun w st1 μ1 H1 v e1 s1 r1 h1 => by
    unfold fPerms at h1
    split at h1
    · rename_i n
      split at h1
      · rename_i ws ec
        split at h1
        · rename_i h4
          cases r1 with
          | ref hm =>
            rename_i pp
            obtain ⟨ys, q1, q2⟩ := s1.cell n _ _ ec hm
            have hle := q2.length
            refine ⟨pp, ys, rfl, q1, by omega, fun r as hr hal hp hn => ?_⟩
            have hl2 : as.length = ((RPm.pmAll ys.length).map (RPm.pickV ys)).length := by rw [List.length_map]; exact hal
            have hr2 : ∀ a ∈ as, upd H1 r (.lst (as.map V.ref)) a = none := fun a h => by rw [upd_ne (hn a h).1]; exact (hn a h).2
            rw [updL_comm as _ fun a h => (hn a h).1]
            obtain ⟨e2, s2, h2⟩ := updL_sim (K := Γ.K) as _ hl2 hp (fun a h => (hn a h).2) s1
            have hr3 : RPm.updL H1 as ((RPm.pmAll ys.length).map (RPm.pickV ys)) r = none := by
              rw [updL_ne as _ fun a h => (hn a h).1]; exact hr
            have E3 : Ext Γ.K μ1 (μ1 ++ [r]) (RPm.updL H1 as ((RPm.pmAll ys.length).map (RPm.pickV ys))) (upd (RPm.updL H1 as ((RPm.pmAll ys.length).map (RPm.pickV ys))) r (.lst (as.map V.ref))) := ext_new hr3
            have rr : Reps Γ.K μ1 (RPm.updL H1 as ((RPm.pmAll ys.length).map (RPm.pickV ys))) ((RPm.pmAll ws.length).map (pickW ws)) (as.map V.ref) := by
              rw [hle]
              exact reps_tups (q2.mono e2) as _ hal h2
            exact h1 _ _ _ (e2.trans E3) (s2.new hr3 ⟨_, upd_same, rr.mono E3⟩ (rr.low (Nat.le_of_eq s1.len))) (.ref (by rw [← s1.len]; simp))
        · exact h1.elim
      · exact h1.elim
    · exact h1.elim
end
end RB

set_option Elab.async false
set_option linter.all false
set_option maxRecDepth 100000
set_option maxHeartbeats 4000000
namespace L2
open PySem PySem.Spec PyProof.Rows HT
section
variable {prog : Program} {w : World} {A : Around} {E : Value → Shared → Prop} {s : Shared}
theorem adjust_rev (n : Nat) : Builtin.Slice.sliceAdjust none none (-1) (n : Int) = ((n : Int) - 1, -1) := by
  unfold Builtin.Slice.sliceAdjust
  simp
theorem places_rev (n : Nat) : Builtin.Slice.slicePlaces ((n : Int) - 1) (-1) (-1) = n := by
  unfold Builtin.Slice.slicePlaces
  simp
  try omega
theorem sliceApplied_rev {sl : Addr} {vl vu vs : Value} {n : Nat} {Q : Int × Int × Nat → Shared → Prop} (hs : s.heap.IsSliceOf sl vl vu vs) (pl : IsPart vl none) (pu : IsPart vu none) (ps : IsPart vs (some (-1)))
    (h : Q ((n : Int) - 1, -1, n) s) : wpAny (model prog w) A (Builtin.Slice.sliceApplied (.ref sl) (pure (n : Int))) Q E s := by
  obtain ⟨os, hos, hcs, hds⟩ := id hs
  unfold Builtin.Slice.sliceApplied Builtin.Slice.sliceFields
  refine wpAny_bind (wpAny_bind (wpAny_field hos hds (x := vl) rfl (wpAny_bind (wpAny_field hos hds (x := vu) rfl (wpAny_bind (wpAny_field hos hds (x := vs) rfl (wpAny_pure ?_)))))))
  refine wpAny_bind (slicePart_ ps ?_)
  show wpAny _ _ (if ((-1 : Int) == 0) = true then _ else _) _ _ s
  rw [if_neg (by decide)]
  refine wpAny_bind (slicePart_ pl (wpAny_bind (slicePart_ pu (wpAny_bind (wpAny_pure ?_)))))
  show wpAny _ _ (match Builtin.Slice.sliceAdjust none none (-1) (n : Int) with | (lo, hi) => pure (lo, (-1 : Int), Builtin.Slice.slicePlaces lo hi (-1))) _ _ s
  rw [adjust_rev n]
  show wpAny _ _ (pure ((n : Int) - 1, (-1 : Int), Builtin.Slice.slicePlaces ((n : Int) - 1) (-1) (-1))) _ _ s
  rw [places_rev]
  exact wpAny_pure h
theorem fm_congr {α β : Type} {f g : α → Option β} : ∀ {l : List α}, (∀ x ∈ l, f x = g x) → l.filterMap f = l.filterMap g
  | [], _ => rfl
  | a :: r, h => by rw [List.filterMap_cons, List.filterMap_cons, h a (List.mem_cons_self ..), fm_congr fun x hx => h x (List.mem_cons_of_mem _ hx)]
theorem pick_rev (xs : Array Value) : ((List.range xs.size).filterMap fun (k : Nat) => xs[(((xs.size : Int) - 1) + (k : Int) * (-1)).toNat]?).toArray = xs.toList.reverse.toArray := by
  congr 1
  have key : ∀ l : List Value, (List.range l.length).filterMap (fun k => l[k]?) = l := by
    intro l
    have : ∀ k ∈ List.range l.length, (fun k : Nat => l[k]?) k = some (l.getD k .none) := fun k hk => by
      have hk := List.mem_range.mp hk
      show l[k]? = _
      rw [List.getD_eq_getElem?_getD, List.getElem?_eq_getElem hk]; rfl
    rw [fm_congr this, List.filterMap_eq_map']
    refine List.ext_getElem? fun i => ?_
    rw [List.getElem?_map]
    by_cases hi : i < l.length
    · rw [List.getElem?_range hi, List.getElem?_eq_getElem hi]
      show some (l.getD i .none) = _
      rw [List.getD_eq_getElem?_getD, List.getElem?_eq_getElem hi]; rfl
    · rw [List.getElem?_eq_none (by rw [List.length_range]; omega), List.getElem?_eq_none (by omega)]; rfl
  have h2 := key xs.toList.reverse
  rw [List.length_reverse, Array.length_toList] at h2
  rw [← h2]
  refine fm_congr fun k hk => ?_
  have hk := List.mem_range.mp hk
  rw [List.getElem?_reverse (by rw [Array.length_toList]; exact hk), Array.length_toList]
  have : (((xs.size : Int) - 1) + (k : Int) * (-1)).toNat = xs.size - 1 - k := by omega
  rw [this, Array.getElem?_toList]
theorem getItem_tuple_rev {t sl : Addr} {items : Array Value} {vl vu vs : Value} {Q : Value → Shared → Prop} (ht : IsTup s.heap t items) (hs : s.heap.IsSliceOf sl vl vu vs) (pl : IsPart vl none) (pu : IsPart vu none) (ps : IsPart vs (some (-1)))
    (h : Q (.ref s.heap.objs.size) { s with heap := s.heap.push { cls := .type "tuple", data := .seq items.toList.reverse.toArray } })
    (hsz : items.size ≤ sizeLine) : wpAny (model prog w) A (getItem (.ref t) (.ref sl)) Q E s := by
  have htake : sizeOk (.seq items.toList.reverse.toArray) := by
    show items.toList.reverse.toArray.size ≤ sizeLine
    rw [List.size_toArray, List.length_reverse, Array.length_toList]
    exact hsz
  obtain ⟨os, hos, hcs, hds⟩ := id hs
  have hTs : s.TypeIs (.ref sl) "slice" := ⟨os, hos, hcs⟩
  unfold getItem
  try with_reducible refine wpAny_holding ?_
  first | refine wpAny_bind (wpAny_pure ?_) | skip
  refine wpAny_bind (wpAny_sequenceKey ht.typeIs (by decide) ?_)
  refine wpAny_bind (wpAny_callSpecial?_slot (name := Str.ofString "__getitem__") ht.typeIs PyProof.Rows.slot_tuple_getitem
    (wpAny_call_entry PyProof.Rows.slot_tuple_getitem ht.typeIs entry_tuple_getitem ?_ (args_tuple_getitem _ _)))
  show wpAny _ _ (Builtin.Tuple.tupleItemsOf (.ref t) >>= _) _ _ s
  refine wpAny_bind (tupleItemsOf_ ht ?_)
  refine wpAny_bind (wpAny_typeOf hTs ?_)
  rw [if_pos (by decide)]
  refine wpAny_bind (sliceApplied_rev hs pl pu ps ?_)
  have hno : ¬ ((((items.size : Int) - 1) == 0 && (-1 : Int) == 1 && items.size == items.size) = true) := by
    intro q
    rw [Bool.and_eq_true, Bool.and_eq_true] at q
    exact absurd q.1.2 (by decide)
  show wpAny _ _ (if (((items.size : Int) - 1) == 0 && (-1 : Int) == 1 && items.size == items.size) = true then _ else _) _ _ s
  rw [if_neg hno, pick_rev]
  first
    | exact wpAny_bind (m := Builtin.Tuple.tupleExact _) (wpAny_newObj_type (wpAny_pure ⟨_, rfl, wpAny_pure h⟩) htake)
    | exact wpAny_bind (m := Builtin.Tuple.tupleExact _) (wpAny_newObj_type (wpAny_bind (wpAny_pure (wpAny_pure ⟨_, rfl, wpAny_pure h⟩))) htake)
    | exact wpAny_bind (wpAny_bind (m := Builtin.Tuple.tupleExact _) (wpAny_newObj_type (wpAny_pure (wpAny_pure ⟨_, rfl, wpAny_pure h⟩)) htake))
    | exact wpAny_bind (wpAny_bind (m := Builtin.Tuple.tupleExact _) (wpAny_newObj_type (wpAny_pure ⟨_, rfl, wpAny_pure h⟩) htake))
end
section
variable {X : Cx}
def tRevT (K : PySem.W.Frag) (te : TE) : TE := fun σ H Q => te σ H fun x H1 => ∃ a xs, x = .ref a ∧ SqT K H1 a xs ∧ ∀ p, H1 p = none → Q (.ref p) (upd H1 p (.tup xs.reverse))
theorem pe_revT {e : Expr} {te : TE} {k : Nat} {p1 p2 p3 pos : Pos} (he : PE X e te) : PE X (.Subscript e (.Slice none none (some (.UnaryOp .USub (.Constant (.int 1) k p1) p2)) p3) pos) (tRevT X.K te) := by
  refine ⟨fun pins s σ H Q I h => ?_⟩
  refine Subscript_ (thn (he.run pins s σ H _ I h) fun v s1 ⟨x, H1, I1, r1, q1⟩ => ?_)
  obtain ⟨a, xs, ex, hx, q⟩ := q1
  subst ex
  cases r1
  have hst : PO X (some (.UnaryOp .USub (.Constant (.int 1) k p1) p2)) (tPart (tUn (rU fun i => .int (-i)) (tC (.int 1)))) := po_some (pe_un un_neg pe_int)
  refine wpAny_Slice (thn (po_none.run pins s1 σ H1 (fun o H2 => o = none ∧ H2 = H1) I1 ⟨rfl, rfl⟩) fun vl s2 ⟨l, H2, I2, pl, el, e2⟩ => ?_)
  subst el e2
  refine thn (po_none.run pins s2 σ H2 (fun o H3 => o = none ∧ H3 = H2) I2 ⟨rfl, rfl⟩) fun vu s3 ⟨u, H3, I3, pu, eu, e3⟩ => ?_
  subst eu e3
  refine thn (hst.run pins s3 σ H3 (fun o H4 => o = some (-1) ∧ H4 = H3) I3 ⟨1, rfl, -1, rfl, rfl, rfl⟩) fun vs s4 ⟨o, H4, I4, ps, eo, e4⟩ => ?_
  subst eo e4
  have I5 : L2.Inv X pins σ H4 { s4 with heap := s4.heap.push { cls := .type "slice", data := .fields #[vl, vu, vs] } } := I4.kept (t' := s4.toks) fun b ob q => Heap.get?_push_of_some _ q
  obtain ⟨its, r, ht, hz⟩ := I5.tuple hx
  have hlen := r.length
  show wpAny (model X.prog X.w) X.A (subscriptTail e (.Slice none none (some (.UnaryOp .USub (.Constant (.int 1) k p1) p2)) p3) (.ref a) (.ref s4.heap.objs.size)) (EP X pins σ Q) X.xe { s4 with heap := s4.heap.push { cls := .type "slice", data := .fields #[vl, vu, vs] } }
  refine tail_any (ops := [.ref a, .ref s4.heap.objs.size]) ht.typeIs PyProof.Rows.slot_tuple_getitem.lookup ?_ (by with_unfolding_all rfl)
  refine getItem_tuple_rev ht (Heap.IsSliceOf.new _ vl vu vs) pl pu ps ?_ (by rw [List.size_toArray]; omega)
  refine ⟨.ref _, _, I5.laid (t' := s4.toks) (o := .tup xs.reverse) (fun b ob q => Heap.get?_push_of_some _ q) (Nat.le_refl _) ?_, rfl, q _ (I5.hok.fresh (Nat.le_refl _))⟩
  exact ⟨by rw [List.length_reverse]; exact hz, _, r.reverse, IsTup.new _ _⟩
end
end L2
namespace RB
open PySem PySem.Spec PyProof.Rows L2
def fRev (w : W) (st : Sto) : Res W := match w with | .tup ws => .ok (.tup ws.reverse) st | _ => .err
section
variable {X : Cx} {Γ : Gm} {Wx : WX} {a : Expr} {ea : Ev}
theorem q_rev {k : Nat} {p1 p2 p3 pos : Pos} (hK : X.K = Γ.K) (ha : PE X a (tE Γ Wx ea)) : PE X (.Subscript a (.Slice none none (some (.UnaryOp .USub (.Constant (.int 1) k p1) p2)) p3) pos) (tE Γ Wx (eU fRev ea)) :=
  PE_imp (pe_revT ha) fun σ H Q ⟨μ, l, st, hs, hl, h⟩ => tG_bind hs hl h _ fun w st1 μ1 H1 v e1 s1 r1 h1 => by
    unfold fRev at h1
    split at h1
    · rename_i ws
      cases r1 with
      | tup q1 q2 =>
        rename_i aa xs
        rw [hK]
        refine ⟨aa, xs, rfl, q1, fun p hp => ?_⟩
        have E : Ext Γ.K μ1 μ1 H1 (upd H1 p (.tup xs.reverse)) := ext_upd (.inl hp)
        exact h1 _ _ _ E (s1.other hp) (.tup (.inl (.inl upd_same)) ((q2.reverse).mono E))
    · exact h1.elim
end
end RB

set_option Elab.async false
set_option linter.all false
set_option maxRecDepth 100000
namespace RB
open PySem PySem.W L2 PySem.Spec PyProof.Rows
def rLcm : List V → Hp → VK → Prop := fun vs H Q => ∃ a b : Int, vs = [.int a, .int b] ∧ a.natAbs < 2 ^ 6000 ∧ b.natAbs < 2 ^ 6000 ∧ Q (.int ((Nat.lcm a.natAbs b.natAbs : Nat) : Int)) H
section
variable {prog : Program} {w : World} {A : Around} {E : Value → Shared → Prop} {s : Shared} {Q : Value → Shared → Prop} {a b c : Int} {t u : Tok}
theorem lcm_wide (ha : a.natAbs < 2 ^ 6000) (hb : b.natAbs < 2 ^ 6000) (h : Q (.int ((a.natAbs.lcm b.natAbs : Nat) : Int) s.toks) { s with toks := s.toks + 1 }) :
    wpAny (model prog w) A (call (.builtin "math.lcm") [.int a t, .int b u]) Q E s := by
  have h1 : (max 1 a.natAbs).log2 < 6000 := (Nat.log2_lt (by omega)).mpr (by have : 1 < 2 ^ 6000 := Nat.one_lt_two_pow (by decide); omega)
  have h2 : (max a.natAbs b.natAbs).log2 ≤ 6000 := by
    by_cases z : max a.natAbs b.natAbs = 0
    · rw [z]; exact Nat.zero_le _
    · exact Nat.le_of_lt ((Nat.log2_lt z).mpr (by omega))
  have hl : (a.natAbs.lcm b.natAbs).log2 < bitsLine := mc_size (k := 200) (Nat.le_trans (mc_lcm_le _ _) (Nat.le_trans (Nat.mul_le_mul (Nat.le_of_lt ha) (Nat.le_of_lt hb)) (by rw [← Nat.pow_add]; exact Nat.pow_le_pow_right (by decide) (by decide)))) (by decide)
  have hsz : ((((Nat.lcm 1 a.natAbs).lcm b.natAbs : Nat) : Int)).natAbs.log2 < bitsLine := by rw [mc_lcm_one]; exact hl
  refine call_function_meets MGF.kind_lcm MGF.plain_lcm MGF.entry_lcm (MGF.args_lcm _ _) (mg_run_lcm a t b u (by omega) (by omega) hsz).meets ?_
  rw [mc_lcm_one]
  exact h
end
section
variable {X : Cx}
theorem cr_lcm : CallR X (.builtin "math.lcm") rLcm := by
  intro pins s σ H vs us Q I r h
  obtain ⟨a, b, rfl, ha, hb, q⟩ := h
  obtain ⟨t, u, rfl⟩ := Vals.int2 r
  exact lcm_wide ha hb ⟨.int _, H, I.tok _, ⟨_, rfl⟩, q⟩
variable {Γ : Gm}
def fLcm (ws : List W) (st : Sto) : Res W := match ws with
  | [.int i, .int j] => if i.natAbs.log2 < 6000 ∧ j.natAbs.log2 < 6000 then .ok (.int ((Nat.lcm i.natAbs j.natAbs : Nat) : Int)) st else .err
  | _ => .err
theorem lt_of_log {n k : Nat} (h : n.log2 < k) : n < 2 ^ k := by
  by_cases z : n = 0
  · rw [z]; exact Nat.two_pow_pos k
  · exact (Nat.log2_lt z).mp h
theorem ok_lcm : CallOk Γ rLcm fLcm := fun Wx μ σ H st ws xs Q hs hr h => by
  unfold fLcm at h
  split at h
  · split at h
    · rename_i hb
      cases hr with
      | cons r t => cases r; cases t with
        | cons r2 t2 => cases r2; cases t2; exact ⟨_, _, rfl, lt_of_log hb.1, lt_of_log hb.2, h.here hs (.int _)⟩
    · exact h.elim
  · exact h.elim
end
end RB

set_option Elab.async false
set_option linter.all false
set_option maxRecDepth 100000
set_option maxHeartbeats 4000000
namespace PySem
open PyProof.Rows L2
section
variable {prog : Program} {w : World} {A : Around} {E : Value → Shared → Prop} {s : Shared} {l : Addr}
theorem iter_intTup {xs : Array (Int × Tok)} {Q : Value → Shared → Prop} (hl : s.heap.IsTuple l (intItems xs))
    (h : ∀ s₂ : Shared, s₂ = { s with heap := s.heap.push { cls := .type "tuple_iterator", data := .fields #[.ref l, .int 0 0] } } →
      (s₂.heap.IsTupleIter s.heap.objs.size l 0 ∧ s₂.heap.IsTuple l (intItems xs)) → (∀ b ∈ [s.heap.objs.size, l], b < s₂.heap.objs.size) → l ≠ s.heap.objs.size → Q (.ref s.heap.objs.size) s₂) :
    wpAny (model prog w) A (pyIter (.ref l)) Q E s := by
  have hlt : l < s.heap.objs.size := by obtain ⟨_, e, _⟩ := hl; exact Heap.lt_size e
  refine wpAny_pyIter_tuple hl (h _ rfl ⟨⟨_, Heap.get?_push_size _ rfl, rfl, rfl⟩, hl.push _⟩ (fun b hb => ?_) (Nat.ne_of_lt hlt))
  show b < (s.heap.push _).objs.size
  rw [Heap.size_push]
  rcases List.mem_cons.mp hb with rfl | hb
  · exact Nat.lt_succ_self _
  · rcases List.mem_cons.mp hb with rfl | hb
    · exact Nat.lt_succ_of_lt hlt
    · cases hb
theorem sum_tup_rawI {its : List Value} {ns : List Int} {Q : Value → Shared → Prop} (hh : A.handled = none) (hl : s.heap.IsTuple l its.toArray) (hi : IntsAre its ns)
    (h : ∀ h' tk t', (∀ b o, s.heap.get? b = some o → h'.get? b = some o) → Q (.int ns.sum t') { s with heap := h', toks := tk }) :
    wpAny (model prog w) A (call (.builtin "sum") [.ref l]) Q E s := by
  obtain ⟨xs, e⟩ := hi.allInts.items
  have hn : numsOf (intItems xs).toList = ns := by rw [← e]; exact hi.numsOf
  rw [nums_intItems] at hn
  rw [e] at hl
  refine call_sum_walkG (iter_intTup hl fun s₂ e st hfp hne => ?_)
  subst e
  refine ⟨_, _, _, _, _, _, numAt xs, rfl, Walks.tuple (A := A.in1) hh _ l hne (intItems xs), st, hfp, (fun _ _ => intItems_at), fun h' tk t' hk => ?_⟩
  have hold : ∀ b o, s.heap.get? b = some o → h'.get? b = some o := fun b o e => by
    refine hk b o (fun hm => ?_) (Heap.get?_push_of_some _ e)
    rcases List.mem_cons.mp hm with e1 | hm
    · exact absurd (e1 ▸ Heap.lt_size e) (Nat.lt_irrefl _)
    · cases hm
  have := h h' tk t' hold
  have e2 : preSum (numAt xs) (intItems xs).size = ns.sum := by
    have : (intItems xs).size = xs.size := by simp [intItems]
    rw [this, preSum_eq, List.take_of_length_le (by simp), hn]
  rw [e2]; exact this
end
end PySem
namespace RB
open PySem PySem.Spec PyProof.Rows L2
section
variable {X : Cx} {Γ : Gm} {Wx : WX}
def rSumT (K : PySem.W.Frag) : List V → Hp → VK → Prop := fun vs H Q => ∃ (a : Addr) (ns : List Int), vs = [V.ref a] ∧ (SqL K H a (ns.map V.int) ∨ SqT K H a (ns.map V.int)) ∧ Q (.int ns.sum) H
theorem cr_sumT (hc : X.calm = true) : CallR X (.builtin "sum") (rSumT X.K) := by
  intro pins s σ H vs us Q I r h
  obtain ⟨a, ns, rfl, hs, q⟩ := h
  rcases hs with hs | hs
  · exact cr_sum hc pins s σ H _ us Q I r ⟨a, ns, rfl, hs, q⟩
  · obtain ⟨its, rv, hl, _⟩ := I.tuple hs
    rw [Vals.ref1 r]
    exact sum_tup_rawI (I.ok.hd hc) hl rv.ints fun h' tk t' hk => ⟨.int _, H, I.kept hk, ⟨_, rfl⟩, q⟩
def fSumS (ws : List W) (st : Sto) : Res W := match ws with | [w] => (match (seqOf st w).bind intsOf with | some bs => .ok (.int bs.sum) st | none => .err) | _ => .err
theorem ok_sumS (hK : X.K = Γ.K) : CallOk Γ (rSumT X.K) fSumS := fun Wx μ σ H st ws xs Q hs hr h => by
  rw [hK]
  unfold fSumS at h
  split at h
  · rename_i n
    split at h
    · rename_i bs e
      cases hr with
      | cons r t =>
        cases t
        cases e1 : seqOf st n with
        | none => rw [e1] at e; cases e
        | some ws =>
          rw [e1] at e
          obtain ⟨a, zs, rfl, h1, h2⟩ := seqOf_rep hs e1 r
          have q := ints_rep e h2
          subst q
          exact ⟨a, bs, rfl, h1, h.here hs (.int _)⟩
    · exact h.elim
  · exact h.elim
end
end RB

set_option Elab.async false
set_option linter.all false
set_option maxRecDepth 100000
set_option maxHeartbeats 4000000
namespace RB
open PySem PySem.Spec PyProof.Rows L2
/-- an iterator over a tuple (t) or a list -/
def ItOn (t : Bool) (h : Heap) (i l : Addr) (k : Nat) : Prop := match t with | true => h.IsTupleIter i l k | false => h.IsListIter i l k
def SqOn (t : Bool) (h : Heap) (l : Addr) (xs : Array Value) : Prop := match t with | true => h.IsTuple l xs | false => h.IsList l xs
section
variable {prog : Program} {w : World} {A : Around} {E : Value → Shared → Prop} {s : Shared} {t u : Bool}
theorem ItOn.ext {h h' : Heap} {b i l : Addr} {k : Nat} (x : ItOn t h i l k) (hs : Heap.ExtBut b h h') (n : i ≠ b) : ItOn t h' i l k := by
  cases t
  · exact Heap.IsListIter.extBut x hs n
  · exact Heap.IsTupleIter.extBut x hs n
theorem SqOn.ext {h h' : Heap} {b l : Addr} {xs : Array Value} (x : SqOn t h l xs) (hs : Heap.ExtBut b h h') (n : l ≠ b) : SqOn t h' l xs := by
  cases t
  · exact Heap.IsList.extBut x hs n
  · exact Heap.IsTuple.extBut x hs n
theorem ItOn.at {h h' : Heap} {i l : Addr} {k : Nat} (x : ItOn t h i l k) (e : ∀ o, h.get? i = some o → h'.get? i = some o) : ItOn t h' i l k := by
  cases t
  · exact Heap.IsListIter.at x e
  · exact Heap.IsTupleIter.at x e
theorem ItOn.lt {h : Heap} {i l : Addr} {k : Nat} (x : ItOn t h i l k) : i < h.objs.size := by
  cases t
  · obtain ⟨_, e, _⟩ := x; exact Heap.lt_size e
  · obtain ⟨_, e, _⟩ := x; exact Heap.lt_size e
theorem SqOn.lt {h : Heap} {l : Addr} {xs : Array Value} (x : SqOn t h l xs) : l < h.objs.size := by
  cases t
  · obtain ⟨_, e, _⟩ := x; exact Heap.lt_size e
  · obtain ⟨_, e, _⟩ := x; exact Heap.lt_size e
theorem ItOn.obj {h : Heap} {i l : Addr} {k : Nat} (x : ItOn t h i l k) : ∃ o, h.get? i = some o ∧ ∀ v, o.data ≠ .cell v := by
  cases t
  · obtain ⟨o, e, _, d⟩ := x; exact ⟨o, e, fun v q => by rw [d] at q; cases q⟩
  · obtain ⟨o, e, _, d⟩ := x; exact ⟨o, e, fun v q => by rw [d] at q; cases q⟩
theorem nextOn_item {it l : Addr} {i : Nat} {xs : Array Value} {x : Value} {Q : Value → Shared → Prop} (hi : ItOn t s.heap it l i) (hl : SqOn t s.heap l xs) (hx : xs[i]? = some x)
    (k : ∀ h', ItOn t h' it l (i + 1) → Heap.SameBut it s.heap h' → Q x { s with heap := h' }) : wpAny (model prog w) A (Builtin.SmallTypes.nextOf (.ref it)) Q E s := by
  cases t
  · exact wpAny_nextOf_list_item hi hl hx k
  · exact RZ.nextOf_tuple_item hi hl hx k
theorem nextOn_end {it l : Addr} {i : Nat} {xs : Array Value} {Q : Value → Shared → Prop} (hh : A.handled = none) (hi : ItOn t s.heap it l i) (hl : SqOn t s.heap l xs) (hx : xs[i]? = none)
    (k : ∀ h' e, Heap.ExtBut it s.heap h' → (∃ o, h'.get? e = some o ∧ o.cls = .type "StopIteration") → E (.ref e) { s with heap := h' }) : wpAny (model prog w) A (Builtin.SmallTypes.nextOf (.ref it)) Q E s := by
  cases t
  · exact wpAny_nextOf_list_end hh hi hl hx k
  · exact RZ.nextOf_tuple_end hh hi hl hx k
variable {q tA tB i1 i2 l1 l2 : Addr} {k1 k2 : Nat} {xs ys : Array Value} {x y a b : Value}
theorem zipOn_item {Q : Value → Shared → Prop} (D : ZipApart q tA tB i1 i2 l1 l2) (hq : IsZip s.heap q tA tB .none) (hA : IsPair s.heap tA (.ref i1) (.ref i2)) (hB : IsPair s.heap tB a b)
    (h1 : ItOn t s.heap i1 l1 k1) (h2 : ItOn u s.heap i2 l2 k2) (g1 : SqOn t s.heap l1 xs) (g2 : SqOn u s.heap l2 ys) (hx : xs[k1]? = some x) (hy : ys[k2]? = some y)
    (k : ∀ h', IsZip h' q tA tB (rawInt s.heap.objs.size) → IsPair h' tB x y → ItOn t h' i1 l1 (k1 + 1) → ItOn u h' i2 l2 (k2 + 1) → IsPair h' s.heap.objs.size x y → h'.objs.size = s.heap.objs.size + 1 →
      (∀ c o, c ≠ q → c ≠ tB → c ≠ i1 → c ≠ i2 → s.heap.get? c = some o → h'.get? c = some o) → Q (.ref s.heap.objs.size) { s with heap := h' }) :
    wpAny (model prog w) A (Builtin.«zip.__next__» ⟨[.ref q], []⟩) (fun fin s' => ∃ v, fin = .done (.ret v) ∧ Q v s') E s := by
  show wpAny _ _ (field (.ref q) 2 >>= _) _ _ _
  refine wpAny_bind (wpAny_field hq rfl (x := .bool false) rfl ?_)
  show wpAny _ _ (field (.ref q) 3 >>= _) _ _ _
  refine wpAny_bind (wpAny_field hq rfl (x := .ref tA) rfl ?_)
  refine wpAny_bind (wpAny_seqItems hA rfl ?_)
  show wpAny _ _ (Builtin.SmallTypes.ownedTupleIsFree (.ref q) >>= _) _ _ _
  refine wpAny_bind ?_
  unfold Builtin.SmallTypes.ownedTupleIsFree
  refine wpAny_bind (wpAny_field hq rfl (x := .none) rfl (wpAny_pure ?_))
  rw [if_pos (by rfl)]
  refine wpAny_bind (wpAny_rule ?_)
  refine wpAny_bind (wpAny_field hq rfl (x := .ref tB) rfl ?_)
  refine wpAny_bind (wpAny_setField_rec hq (by simp) fun H1 q1 n1 => ?_)
  have q1 : IsZip H1 q tA tB .ellipsis := q1
  refine wpAny_bind ?_
  simp only [List.forIn_cons, List.forIn_nil, List.zipIdx_cons, List.zipIdx_nil]
  refine wpAny_bind (wpAny_bind (wpAny_onRaise (?_ : wpAny _ _ (Builtin.SmallTypes.nextOf (.ref i1) >>= _) _ _ _)))
  refine wpAny_bind (nextOn_item (h1.ext n1.extBut D.i1z) (g1.ext n1.extBut D.l1z) hx fun H2 j1 n2 => wpAny_pure ?_)
  have b2 : IsPair H2 tB a b := n2.extBut _ _ D.TOi1 (n1.extBut _ _ D.TOz hB)
  refine wpAny_bind (wpAny_seqItems b2 rfl ?_)
  refine wpAny_bind (wpAny_updateSeq_pair b2 fun H3 b3 n3 => ?_)
  have b3 : IsPair H3 tB x b := b3
  refine wpAny_bind (wpAny_letGo (wpAny_pure ?_))
  refine wpAny_bind (wpAny_bind (wpAny_onRaise (?_ : wpAny _ _ (Builtin.SmallTypes.nextOf (.ref i2) >>= _) _ _ _)))
  refine wpAny_bind (nextOn_item (((h2.ext n1.extBut D.i2z).ext n2.extBut D.i12.symm).ext n3.extBut D.TOi2.symm) (((g2.ext n1.extBut D.l2z).ext n2.extBut D.l2i1).ext n3.extBut D.l2TO) hy fun H4 j2 n4 => wpAny_pure ?_)
  have b4 : IsPair H4 tB x b := n4.extBut _ _ D.TOi2 b3
  refine wpAny_bind (wpAny_seqItems b4 rfl ?_)
  refine wpAny_bind (wpAny_updateSeq_pair b4 fun H5 b5 n5 => ?_)
  have b5 : IsPair H5 tB x y := b5
  refine wpAny_bind (wpAny_letGo (wpAny_pure (wpAny_pure ?_)))
  refine wpAny_bind (wpAny_seqItems b5 rfl (wpAny_bind (wpAny_newTuple ?_)))
  have sz : H5.objs.size = s.heap.objs.size := by rw [n5.1, n4.1, n3.1, n2.1, n1.1]
  have q5 : IsZip H5 q tA tB .ellipsis := n5.extBut _ _ D.TOz.symm (n4.extBut _ _ D.i2z.symm (n3.extBut _ _ D.TOz.symm (n2.extBut _ _ D.i1z.symm q1)))
  have old5 : ∀ c o, c ≠ q → c ≠ tB → c ≠ i1 → c ≠ i2 → s.heap.get? c = some o → H5.get? c = some o := fun c o c1 c2 c3 c4 e => n5.extBut _ _ c2 (n4.extBut _ _ c4 (n3.extBut _ _ c2 (n2.extBut _ _ c3 (n1.extBut _ _ c1 e))))
  have j15 : ItOn t H5 i1 l1 (k1 + 1) := ((j1.ext n3.extBut D.TOi1.symm).ext n4.extBut D.i12).ext n5.extBut D.TOi1.symm
  have j25 : ItOn u H5 i2 l2 (k2 + 1) := j2.ext n5.extBut D.TOi2.symm
  have qlt : q < H5.objs.size := Heap.lt_size q5
  show wpAny _ _ (Builtin.SmallTypes.ownedTupleHandOut (.ref q) (.ref H5.objs.size) >>= _) _ _ _
  refine wpAny_bind ?_
  unfold Builtin.SmallTypes.ownedTupleHandOut
  have q6 : IsZip (H5.push { cls := .type "tuple", data := .seq #[x, y] }) q tA tB .ellipsis := Heap.get?_push_of_some _ q5
  refine wpAny_bind (wpAny_setField_rec q6 (by simp) fun H7 q7 n7 => ?_)
  have q7 : IsZip H7 q tA tB (rawInt H5.objs.size) := q7
  refine wpAny_setField_rec q7 (by simp) fun H8 q8 n8 => ?_
  have q8 : IsZip H8 q tA tB (rawInt H5.objs.size) := q8
  have up : ∀ c o, c ≠ q → H5.get? c = some o → H8.get? c = some o := fun c o c1 e => n8.extBut _ _ c1 (n7.extBut _ _ c1 (Heap.get?_push_of_some _ e))
  have T8 : IsPair H8 H5.objs.size x y := n8.extBut _ _ (Nat.ne_of_gt qlt) (n7.extBut _ _ (Nat.ne_of_gt qlt) (Heap.get?_push_size _ rfl))
  have s8 : H8.objs.size = H5.objs.size + 1 := by rw [n8.1, n7.1, Heap.size_push]
  rw [sz] at q8 T8 s8
  refine wpAny_pure ⟨_, rfl, ?_⟩
  show Q (.ref H5.objs.size) _
  rw [sz]
  exact k H8 q8 (up _ _ D.TOz b5) (j15.at fun o e => up _ o D.i1z e) (j25.at fun o e => up _ o D.i2z e) T8 s8 fun c o c1 c2 c3 c4 e => up c o c1 (old5 c o c1 c2 c3 c4 e)
theorem zipOn_end {Q : Fin → Shared → Prop} (hh : A.handled = none) (D : ZipApart q tA tB i1 i2 l1 l2) (hq : IsZip s.heap q tA tB .none) (hA : IsPair s.heap tA (.ref i1) (.ref i2)) (hB : IsPair s.heap tB a b)
    (h1 : ItOn t s.heap i1 l1 k1) (h2 : ItOn u s.heap i2 l2 k2) (g1 : SqOn t s.heap l1 xs) (g2 : SqOn u s.heap l2 ys) (stop : xs[k1]? = none ∨ ys[k2]? = none)
    (k : ∀ h' e, (∀ c o, c ≠ q → c ≠ tB → c ≠ i1 → c ≠ i2 → s.heap.get? c = some o → h'.get? c = some o) → (∃ o, h'.get? e = some o ∧ o.cls = .type "StopIteration") → E (.ref e) { s with heap := h' }) :
    wpAny (model prog w) A (Builtin.«zip.__next__» ⟨[.ref q], []⟩) Q E s := by
  show wpAny _ _ (field (.ref q) 2 >>= _) _ _ _
  refine wpAny_bind (wpAny_field hq rfl (x := .bool false) rfl ?_)
  show wpAny _ _ (field (.ref q) 3 >>= _) _ _ _
  refine wpAny_bind (wpAny_field hq rfl (x := .ref tA) rfl ?_)
  refine wpAny_bind (wpAny_seqItems hA rfl ?_)
  show wpAny _ _ (Builtin.SmallTypes.ownedTupleIsFree (.ref q) >>= _) _ _ _
  refine wpAny_bind ?_
  unfold Builtin.SmallTypes.ownedTupleIsFree
  refine wpAny_bind (wpAny_field hq rfl (x := .none) rfl (wpAny_pure ?_))
  rw [if_pos (by rfl)]
  refine wpAny_bind (wpAny_rule ?_)
  refine wpAny_bind (wpAny_field hq rfl (x := .ref tB) rfl ?_)
  refine wpAny_bind (wpAny_setField_rec hq (by simp) fun H1 q1 n1 => ?_)
  have q1 : IsZip H1 q tA tB .ellipsis := q1
  refine wpAny_bind ?_
  simp only [List.forIn_cons, List.forIn_nil, List.zipIdx_cons, List.zipIdx_nil]
  refine wpAny_bind (wpAny_bind (wpAny_onRaise (?_ : wpAny _ _ (Builtin.SmallTypes.nextOf (.ref i1) >>= _) _ _ _)))
  cases hx : xs[k1]? with
  | none =>
    refine wpAny_bind (nextOn_end hh (h1.ext n1.extBut D.i1z) (g1.ext n1.extBut D.l1z) hx fun H2 e n2 he => ?_)
    obtain ⟨oe, e1, e2⟩ := he
    have q2 : IsZip H2 q tA tB .ellipsis := n2 _ _ D.i1z.symm q1
    have ne : e ≠ q := fun z => by subst z; rw [q2] at e1; cases e1; simp at e2
    refine wpAny_setField_rec q2 (by simp) fun H3 _ n3 => k H3 e (fun c o c1 _ c3 _ z => n3.extBut _ _ c1 (n2 _ _ c3 (n1.extBut _ _ c1 z))) ⟨oe, n3.extBut _ _ ne e1, e2⟩
  | some x =>
    have hy : ys[k2]? = none := by
      rcases stop with h | h
      · rw [hx] at h; cases h
      · exact h
    refine wpAny_bind (nextOn_item (h1.ext n1.extBut D.i1z) (g1.ext n1.extBut D.l1z) hx fun H2 j1 n2 => wpAny_pure ?_)
    have b2 : IsPair H2 tB a b := n2.extBut _ _ D.TOi1 (n1.extBut _ _ D.TOz hB)
    refine wpAny_bind (wpAny_seqItems b2 rfl ?_)
    refine wpAny_bind (wpAny_updateSeq_pair b2 fun H3 b3 n3 => ?_)
    refine wpAny_bind (wpAny_letGo (wpAny_pure ?_))
    refine wpAny_bind (wpAny_bind (wpAny_onRaise (?_ : wpAny _ _ (Builtin.SmallTypes.nextOf (.ref i2) >>= _) _ _ _)))
    refine wpAny_bind (nextOn_end hh (((h2.ext n1.extBut D.i2z).ext n2.extBut D.i12.symm).ext n3.extBut D.TOi2.symm) (((g2.ext n1.extBut D.l2z).ext n2.extBut D.l2i1).ext n3.extBut D.l2TO) hy fun H4 e n4 he => ?_)
    obtain ⟨oe, e1, e2⟩ := he
    have q4 : IsZip H4 q tA tB .ellipsis := n4 _ _ D.i2z.symm (n3.extBut _ _ D.TOz.symm (n2.extBut _ _ D.i1z.symm q1))
    have ne : e ≠ q := fun z => by subst z; rw [q4] at e1; cases e1; simp at e2
    refine wpAny_setField_rec q4 (by simp) fun H5 _ n5 => k H5 e (fun c o c1 c2 c3 c4 z => n5.extBut _ _ c1 (n4 _ _ c4 (n3.extBut _ _ c2 (n2.extBut _ _ c3 (n1.extBut _ _ c1 z))))) ⟨oe, n5.extBut _ _ ne e1, e2⟩
theorem nextZ_item {Q : Option Value → Shared → Prop} (D : ZipApart q tA tB i1 i2 l1 l2) (hq : IsZip s.heap q tA tB .none) (hA : IsPair s.heap tA (.ref i1) (.ref i2)) (hB : IsPair s.heap tB a b)
    (h1 : ItOn t s.heap i1 l1 k1) (h2 : ItOn u s.heap i2 l2 k2) (g1 : SqOn t s.heap l1 xs) (g2 : SqOn u s.heap l2 ys) (hx : xs[k1]? = some x) (hy : ys[k2]? = some y)
    (k : ∀ h', IsZip h' q tA tB (rawInt s.heap.objs.size) → IsPair h' tB x y → ItOn t h' i1 l1 (k1 + 1) → ItOn u h' i2 l2 (k2 + 1) → IsPair h' s.heap.objs.size x y → h'.objs.size = s.heap.objs.size + 1 →
      (∀ c o, c ≠ q → c ≠ tB → c ≠ i1 → c ≠ i2 → s.heap.get? c = some o → h'.get? c = some o) → Q (some (.ref s.heap.objs.size)) { s with heap := h' }) : wpAny (model prog w) A (pyNext (.ref q)) Q E s := by
  have T : s.TypeIs (.ref q) "zip" := ⟨_, hq, rfl⟩
  unfold pyNext
  exact wpAny_bind (wpAny_attempt (wpAny_callSpecial?_slot (name := Str.ofString "__next__") T F.slot_zip_next (wpAny_call_entry F.slot_zip_next T F.entry_zip_next (zipOn_item D hq hA hB h1 h2 g1 g2 hx hy fun h' c1 c2 c3 c4 c5 c6 c7 => wpAny_pure (k h' c1 c2 c3 c4 c5 c6 c7)) (F.args_zip_next_1 _))))
theorem nextZ_end {Q : Option Value → Shared → Prop} (hh : A.handled = none) (D : ZipApart q tA tB i1 i2 l1 l2) (hq : IsZip s.heap q tA tB .none) (hA : IsPair s.heap tA (.ref i1) (.ref i2)) (hB : IsPair s.heap tB a b)
    (h1 : ItOn t s.heap i1 l1 k1) (h2 : ItOn u s.heap i2 l2 k2) (g1 : SqOn t s.heap l1 xs) (g2 : SqOn u s.heap l2 ys) (stop : xs[k1]? = none ∨ ys[k2]? = none)
    (k : ∀ h', (∀ c o, c ≠ q → c ≠ tB → c ≠ i1 → c ≠ i2 → s.heap.get? c = some o → h'.get? c = some o) → Q none { s with heap := h' }) : wpAny (model prog w) A (pyNext (.ref q)) Q E s := by
  have T : s.TypeIs (.ref q) "zip" := ⟨_, hq, rfl⟩
  unfold pyNext
  refine wpAny_bind (wpAny_attempt (wpAny_callSpecial?_slot (name := Str.ofString "__next__") T F.slot_zip_next (wpAny_call_entry F.slot_zip_next T F.entry_zip_next (zipOn_end hh D hq hA hB h1 h2 g1 g2 stop fun h' e hk he => ?_) (F.args_zip_next_1 _))))
  obtain ⟨o, e1, e2⟩ := he
  exact wpAny_bind (wpAny_isInstance (T := "StopIteration") (b := true) ⟨o, e1, e2⟩ isSubtype_stop (wpAny_pure (k _ hk)))
end
end RB

set_option Elab.async false
set_option linter.all false
set_option maxRecDepth 100000
set_option maxHeartbeats 4000000
namespace RB
open PySem PySem.Spec PyProof.Rows L2
def itObj (t : Bool) (l : Addr) : Obj := { cls := .type (match t with | true => "tuple_iterator" | false => "list_iterator"), data := .fields #[.ref l, .int 0 0] }
section
variable {prog : Program} {w : World} {A : Around} {E : Value → Shared → Prop} {s : Shared} {t u : Bool} {l l1 l2 : Addr} {xs ys : Array Value}
theorem iterOn {Q : Value → Shared → Prop} (h : SqOn t s.heap l xs) (k : Q (.ref s.heap.objs.size) { s with heap := s.heap.push (itObj t l) }) : wpAny (model prog w) A (pyIter (.ref l)) Q E s := by
  cases t
  · exact wpAny_pyIter_list h k
  · exact wpAny_pyIter_tuple h k
theorem SqOn.push {h : Heap} (x : SqOn t h l xs) (o : Obj) : SqOn t (h.push o) l xs := by
  cases t
  · exact Heap.IsList.push x _
  · exact Heap.IsTuple.push x _
theorem itObj_at {h : Heap} {i : Addr} (e : h.get? i = some (itObj t l)) : ItOn t h i l 0 := by
  cases t
  · exact ⟨_, e, rfl, rfl⟩
  · exact ⟨_, e, rfl, rfl⟩
abbrev zA (t : Bool) (h : Heap) (l1 : Addr) : Heap := h.push (itObj t l1)
abbrev zB (t u : Bool) (h : Heap) (l1 l2 : Addr) : Heap := (zA t h l1).push (itObj u l2)
abbrev zC (t u : Bool) (h : Heap) (l1 l2 : Addr) : Heap := (zB t u h l1 l2).push { cls := .type "tuple", data := .seq #[.ref h.objs.size, .ref (zA t h l1).objs.size] }
abbrev zD (t u : Bool) (h : Heap) (l1 l2 : Addr) : Heap := (zC t u h l1 l2).push { cls := .type "tuple", data := .seq #[.none, .none] }
abbrev zE (t u : Bool) (h : Heap) (l1 l2 : Addr) : Heap := (zD t u h l1 l2).push { cls := .type "zip", data := .fields #[.none, .bool false, .bool false, .ref (zB t u h l1 l2).objs.size, .ref (zC t u h l1 l2).objs.size] }
theorem meets_zipOn (t u : Bool) (l1 l2 : Addr) (xs ys : Array Value) :
    Meets (Builtin.«zip.__new__» ⟨[.type "zip", .ref l1, .ref l2], []⟩) (fun _ R s => SqOn t s.heap l1 xs ∧ SqOn u s.heap l2 ys ∧ R (.ok (.ret (.ref (zD t u s.heap l1 l2).objs.size))) { s with heap := zE t u s.heap l1 l2 }) :=
  .of_wp fun prog w A R s ⟨e1, e2, h⟩ => by
    obtain ⟨hp, g, d, tk, os⟩ := s
    have zs := sub_zip
    have hL : SqOn t (Shared.heap ⟨hp, g, d, tk, os⟩) l1 xs := e1
    have hM : SqOn u (Shared.heap ⟨hp.push (itObj t l1), g, d, tk, os⟩) l2 ys := SqOn.push e2 _
    wp_walk using iterOn hL, iterOn hM
    exact ⟨_, rfl, h⟩
theorem call_zipOn {Q : Value → Shared → Prop} (e1 : SqOn t s.heap l1 xs) (e2 : SqOn u s.heap l2 ys)
    (h : ∀ h', IsZip h' (s.heap.objs.size + 4) (s.heap.objs.size + 2) (s.heap.objs.size + 3) .none → IsPair h' (s.heap.objs.size + 2) (.ref s.heap.objs.size) (.ref (s.heap.objs.size + 1)) → IsPair h' (s.heap.objs.size + 3) .none .none →
      ItOn t h' s.heap.objs.size l1 0 → ItOn u h' (s.heap.objs.size + 1) l2 0 → h'.objs.size = s.heap.objs.size + 5 → (∀ c o, s.heap.get? c = some o → h'.get? c = some o) → Q (.ref (s.heap.objs.size + 4)) { s with heap := h' }) :
    wpAny (model prog w) A (call (.type "zip") [.ref l1, .ref l2]) Q E s := by
  refine callType_new F.called_zip (by decide) (F.typeCall_zip_2 _ _) (F.newCall_zip_2 _ _) (fun obj => F.args_object_init_3 obj _ _) F.entry_zip_new (meets_zipOn t u l1 l2 xs ys) ⟨e1, e2, ?_⟩
  have m1 : (zA t s.heap l1).objs.size = s.heap.objs.size + 1 := Heap.size_push ..
  have m2 : (zB t u s.heap l1 l2).objs.size = s.heap.objs.size + 2 := by rw [Heap.size_push, m1]
  have m3 : (zC t u s.heap l1 l2).objs.size = s.heap.objs.size + 3 := by rw [Heap.size_push, m2]
  have m4 : (zD t u s.heap l1 l2).objs.size = s.heap.objs.size + 4 := by rw [Heap.size_push, m3]
  have m5 : (zE t u s.heap l1 l2).objs.size = s.heap.objs.size + 5 := by rw [Heap.size_push, m4]
  have on : ∀ {h : Heap} {o o' : Obj} {c : Addr}, h.get? c = some o → (h.push o').get? c = some o := fun e => Heap.get?_push_of_some _ e
  have p5 : (zE t u s.heap l1 l2).get? (zD t u s.heap l1 l2).objs.size = some _ := Heap.get?_push_size _ rfl
  have p4 : (zE t u s.heap l1 l2).get? (zC t u s.heap l1 l2).objs.size = some _ := on (Heap.get?_push_size _ rfl)
  have p3 : (zE t u s.heap l1 l2).get? (zB t u s.heap l1 l2).objs.size = some _ := on (on (Heap.get?_push_size _ rfl))
  have p2 : (zE t u s.heap l1 l2).get? (zA t s.heap l1).objs.size = some _ := on (on (on (Heap.get?_push_size _ (by cases u <;> rfl))))
  have p1 : (zE t u s.heap l1 l2).get? s.heap.objs.size = some _ := on (on (on (on (Heap.get?_push_size _ (by cases t <;> rfl)))))
  show _ ∧ _
  rw [m2, m3, m4] at p5
  rw [m1, m2] at p3
  rw [m3] at p4
  rw [m1] at p2
  rw [m4]
  exact ⟨⟨_, p5, rfl⟩, h _ p5 p3 p4 (itObj_at p1) (itObj_at p2) m5 fun c o x => on (on (on (on (on x))))⟩
end
/-- a tuple (t) or a list of the layer's heap -/
def SqK (t : Bool) (K : PySem.W.Frag) (H : Hp) (a : Addr) (xs : List V) : Prop := match t with | true => SqT K H a xs | false => SqL K H a xs
section
variable {X : Cx} {pins : List (Addr × Obj)} {σ : L2.St} {H : Hp} {s : Shared} {t u : Bool}
theorem SqK.laid {a : Addr} {xs : List V} (I : L2.Inv X pins σ H s) (h : SqK t X.K H a xs) : ∃ its : List Value, Vals xs its ∧ SqOn t s.heap a its.toArray ∧ xs.length ≤ sizeLine := by
  cases t
  · obtain ⟨its, r, p, z⟩ := I.list h
    exact ⟨its, r, p.isList, z⟩
  · obtain ⟨its, r, p, z⟩ := I.tuple h
    exact ⟨its, r, p, z⟩
theorem SqK.same {a : Addr} {xs ys : List V} (I : L2.Inv X pins σ H s) (h : SqK t X.K H a xs) (h' : SqK t X.K H a ys) : xs = ys := by
  cases t
  · exact I.list_inj h h'
  · exact I.tuple_inj h h'
/-- what stands at a and b at each turn, the items in new pairs -/
def ItzM (t u : Bool) (K : PySem.W.Frag) (a b : Addr) : It :=
  ⟨fun i H => ∃ (xs ys : List V) (x y : V), (SqK t K H a xs ∧ SqK u K H b ys) ∧ xs[i]? = some x ∧ ys[i]? = some y,
    fun i H v H' => ∃ T x y, (v = .ref T ∧ H T = none ∧ H' = upd H T (.tup [x, y])) ∧ (∀ xs, SqK t K H a xs → xs[i]? = some x) ∧ ∀ ys, SqK u K H b ys → ys[i]? = some y,
    fun i H => ∃ xs ys : List V, (SqK t K H a xs ∧ SqK u K H b ys) ∧ (xs.length ≤ i ∨ ys.length ≤ i)⟩
theorem turn_zipM {P : Program} {w : World} {K : PySem.W.Frag} {elts : List Expr} {kk : Nat} {tpos : Pos} {a b q tA tB i1 i2 : Addr} (D : ZipApart q tA tB i1 i2 a b) :
    Turn P w K (.Tuple elts kk tpos) (ItzM t u K a b) [q, tA, tB, i1, i2] q (fun i h => IsZip h q tA tB .none ∧ IsPair h tA (.ref i1) (.ref i2) ∧ (∃ x y, IsPair h tB x y) ∧ ItOn t h i1 a i ∧ ItOn u h i2 b i) where
  mem := by simp
  obj := fun i h ⟨hq, hA, ⟨x, y, hB⟩, h1, h2⟩ c hc => by
    have e' : c = q ∨ c = tA ∨ c = tB ∨ c = i1 ∨ c = i2 := by simpa using hc
    rcases e' with e | e | e | e | e
    · rw [e]; exact ⟨_, hq, fun v z => nomatch z⟩
    · rw [e]; exact ⟨_, hA, fun v z => nomatch z⟩
    · rw [e]; exact ⟨_, hB, fun v z => nomatch z⟩
    · rw [e]; exact h1.obj
    · rw [e]; exact h2.obj
  keep := fun i h h' ⟨hq, hA, ⟨x, y, hB⟩, h1, h2⟩ k => ⟨k q (by simp) _ hq, k tA (by simp) _ hA, ⟨x, y, k tB (by simp) _ hB⟩, h1.at fun o e => k i1 (by simp) o e, h2.at fun o e => k i2 (by simp) o e⟩
  item := by
    intro X eP ew eK hc i pins s σ H E I hf st hg
    subst eP ew eK
    obtain ⟨hq, hA, ⟨x0, y0, hB⟩, h1, h2⟩ := st
    obtain ⟨xs, ys, x, y, ⟨gx, gy⟩, hx, hy⟩ := hg
    obtain ⟨its, rv, p, _⟩ := gx.laid I
    obtain ⟨its2, rv2, p2, _⟩ := gy.laid I
    obtain ⟨v1, hv1, r1⟩ := rv.get hx
    obtain ⟨v2, hv2, r2⟩ := rv2.get hy
    have ql : q < s.heap.objs.size := Heap.lt_size hq
    refine nextZ_item D hq hA hB h1 h2 p p2 (x := v1) (y := v2) (by simpa using hv1) (by simpa using hv2) fun h' q' B' j1 j2 hT hsz hk => ?_
    refine ⟨_, rfl, wpAny_letOwnedTupleGo_zip (s := { s with heap := h' }) q' fun h'' q'' sb => ?_⟩
    have hT2 : h''.get? s.heap.objs.size = some { cls := .type "tuple", data := .seq #[v1, v2] } := (sb.2 _ (Nat.ne_of_gt ql)).trans hT
    have new : ObjOk X.prog X.w (upd H s.heap.objs.size (.tup [x, y])) h'' s.heap.objs.size (.tup [x, y]) := ⟨by show 2 ≤ sizeLine; decide, [v1, v2], .cons r1 (.cons r2 .nil), ⟨_, hT2, rfl, _, rfl⟩⟩
    have old : ∀ c o, c ∉ [q, tA, tB, i1, i2] → s.heap.get? c = some o → h''.get? c = some o := fun c o hb e => (sb.2 c (fun z => hb (by simp [z]))).trans (hk c o (fun z => hb (by simp [z])) (fun z => hb (by simp [z])) (fun z => hb (by simp [z])) (fun z => hb (by simp [z])) e)
    have I1 : Inv X pins σ (upd H s.heap.objs.size (.tup [x, y])) { s with heap := h'' } := I.turnedNew (t' := s.toks) (ch := [q, tA, tB, i1, i2]) old hf (Nat.le_refl _) new
    have lts : ∀ c ∈ [q, tA, tB, i1, i2], c < s.heap.objs.size := fun c hc => by
      have e' : c = q ∨ c = tA ∨ c = tB ∨ c = i1 ∨ c = i2 := by simpa using hc
      rcases e' with e | e | e | e | e
      · rw [e]; exact ql
      · rw [e]; exact Heap.lt_size hA
      · rw [e]; exact Heap.lt_size hB
      · rw [e]; exact h1.lt
      · rw [e]; exact h2.lt
    refine ⟨.ref s.heap.objs.size, _, I1, rfl, ⟨_, x, y, ⟨rfl, I.hok.fresh (Nat.le_refl _), rfl⟩, fun l hl => by rw [hl.same I gx]; exact hx, fun l hl => by rw [hl.same I gy]; exact hy⟩, ⟨q'', ?_, ⟨v1, v2, (sb.2 _ D.TOz).trans B'⟩, j1.at fun o e => (sb.2 _ D.i1z).trans e, j2.at fun o e => (sb.2 _ D.i2z).trans e⟩, fun c hc => ?_⟩
    · exact (sb.2 _ D.TIz).trans (hk _ _ D.TIz D.TITO D.TIi1 D.TIi2 hA)
    · rw [upd_ne (Nat.ne_of_lt (lts c hc))]
      exact (hf c hc).1
  done := by
    intro X eP ew eK hc i pins s σ H E I hf st hg
    subst eP ew eK
    obtain ⟨hq, hA, ⟨x0, y0, hB⟩, h1, h2⟩ := st
    obtain ⟨xs, ys, ⟨gx, gy⟩, stop⟩ := hg
    obtain ⟨its, rv, p, _⟩ := gx.laid I
    obtain ⟨its2, rv2, p2, _⟩ := gy.laid I
    have n1 := rv.length
    have n2 := rv2.length
    have he : its.toArray[i]? = none ∨ its2.toArray[i]? = none := by
      rcases stop with z | z
      · exact .inl (by simp; omega)
      · exact .inr (by simp; omega)
    exact nextZ_end (I.ok.hd hc) D hq hA hB h1 h2 p p2 he fun h' hk => ⟨rfl, I.turnedL (t' := s.toks) (ch := [q, tA, tB, i1, i2]) (fun c o hb e => hk c o (fun z => hb (by simp [z])) (fun z => hb (by simp [z])) (fun z => hb (by simp [z])) (fun z => hb (by simp [z])) e) hf⟩
  self := fun A i s Q E ⟨hq, _⟩ h => wpAny_pyIter_zip hq h
def iZipM (K : PySem.W.Frag) (ta : TA) : TI := fun σ H R => ta σ H fun vs H1 => ∃ (t u : Bool) (a b : Addr) (xs ys : List V), vs = [.ref a, .ref b] ∧ (SqK t K H1 a xs ∧ SqK u K H1 b ys) ∧ R (ItzM t u K a b) H1
theorem pi_zipM {e e2 : Expr} {ta : TA} {p pos tpos : Pos} {elts : List Expr} {kk : Nat} (hg : Gl X "zip") (hm : X.mg "zip" = none) (ha : PA X [e, e2] ta)
    (hs : starEach [e, e2] X.env = (false, eval e X.env) :: starEach [e2] X.env := by rfl) (hpl : (backTo pos (starEach [e2] X.env)).any (·.1) = false := by rfl) : PI X (.Tuple elts kk tpos) (.Call (.Name "zip" p) [e, e2] [] pos) (iZipM X.K ta) := by
  refine ⟨fun pins s σ H R I h => ?_⟩
  refine Call_ (ld_blt I hg hm PyProof.Rows.boot_zip (PyProof.Rows.callWith_type1 (thn (ha.run pos pins s σ H _ I h) fun us s1 ⟨vs, H1, I1, r1, q1⟩ => ?_) hs hpl))
  obtain ⟨t, u, a, b, xs, ys, ex, ⟨gx, gy⟩, k⟩ := q1
  subst ex
  cases r1 with
  | cons r rr =>
    cases rr with
    | cons r' rr =>
      cases rr
      cases r
      cases r'
      obtain ⟨its, rv, p1, _⟩ := gx.laid I1
      obtain ⟨its2, rv2, p2, _⟩ := gy.laid I1
      refine call_zipOn p1 p2 fun h' hq hA hB j1 j2 hsz hk => wpAny_pyIter_zip hq ?_
      have I2 : Inv X pins σ H1 { s1 with heap := h' } := I1.kept (t' := s1.toks) hk
      refine ⟨s1.heap.objs.size + 4, [s1.heap.objs.size + 4, s1.heap.objs.size + 2, s1.heap.objs.size + 3, s1.heap.objs.size, s1.heap.objs.size + 1], _, _, H1, rfl, I2, turn_zipM (PySem.W.ktu_apart s1.heap.objs.size a b p1.lt p2.lt), ⟨hq, hA, ⟨_, _, hB⟩, j1, j2⟩, fun c hc => ?_, k⟩
      have hle : s1.heap.objs.size ≤ c := by
        have e' : c = s1.heap.objs.size + 4 ∨ c = s1.heap.objs.size + 2 ∨ c = s1.heap.objs.size + 3 ∨ c = s1.heap.objs.size ∨ c = s1.heap.objs.size + 1 := by simpa using hc
        rcases e' with z | z | z | z | z <;> subst z <;> simp
      exact I1.fpOk hle (I1.hok.fresh hle)
end
section
variable {X : Cx} {Γ : Gm} {Wx : WX} {a b : Expr} {eas : Evs}
def srcOf (st : Sto) : W → Option Src
  | .tup ws => some (.fix ws)
  | .ref n => match getL st n with | some _ => some (.live n) | none => none
  | _ => none
def vZip (as : Evs) : Sv := fun l st => (as l st).bind fun ws st1 => match ws with
  | [x, y] => match srcOf st1 x, srcOf st1 y with | some s, some s' => .ok (.zip s s') st1 | _, _ => .err
  | _ => .err
/-- one of the two that are walked -/
def SrcOk (Γ : Gm) (t : Bool) (a : Addr) (s : Src) (μ : List Addr) (H : Hp) : Prop := ∀ μ' H' st', Ext Γ.K μ μ' H H' → Sim Γ μ' st' H' → ∀ i o, s.at st' i = some o → ∃ xs, SqK t Γ.K H' a xs ∧ match o with
  | some w => ∃ v, xs[i]? = some v ∧ Rep Γ.K μ' H' w v
  | none => xs.length ≤ i
theorem srcOf_ok {μ : List Addr} {H : Hp} {st : Sto} {w : W} {v : V} {s : Src} (hs : Sim Γ μ st H) (h : srcOf st w = some s) (r : Rep Γ.K μ H w v) : ∃ (t : Bool) (a : Addr) (xs : List V), v = .ref a ∧ SqK t Γ.K H a xs ∧ SrcOk Γ t a s μ H := by
  cases w with
  | tup ws =>
    cases h
    cases r with
    | tup q1 q2 =>
      rename_i a xs
      refine ⟨true, a, xs, rfl, q1, fun μ' H' st' e s' i o ho => ⟨xs, e.tup _ _ q1, ?_⟩⟩
      have q3 := q2.mono e
      have ho : some ws[i]? = some o := ho
      cases ho
      cases ew : ws[i]? with
      | none => exact by rw [← q2.length]; exact List.getElem?_eq_none_iff.mp ew
      | some w => obtain ⟨v, z1, z2⟩ := q3.get ew; exact ⟨v, z1, z2⟩
  | ref n =>
    unfold srcOf at h
    dsimp only at h
    cases eg : getL st n with
    | none => rw [eg] at h; cases h
    | some ws =>
      rw [eg] at h
      cases h
      cases r with
      | ref hm =>
        rename_i a
        obtain ⟨xs, q1, q2⟩ := getLive hs hm eg
        refine ⟨false, a, xs, rfl, q1, fun μ' H' st' e s' i o ho => ?_⟩
        have ho : (getL st' n).map (·[i]?) = some o := ho
        cases eg' : getL st' n with
        | none => rw [eg'] at ho; cases ho
        | some ws' =>
          rw [eg'] at ho
          cases ho
          obtain ⟨xs', q3, q4⟩ := getLive s' (e.pre _ _ hm) eg'
          refine ⟨xs', q3, ?_⟩
          show match ws'[i]? with | some w => _ | none => _
          cases ew : ws'[i]? with
          | none => exact by rw [← q4.length]; exact List.getElem?_eq_none_iff.mp ew
          | some w => obtain ⟨v, z1, z2⟩ := q4.get ew; exact ⟨v, z1, z2⟩
  | _ => cases h
theorem itok_zip {t u : Bool} {a b : Addr} {s s' : Src} {μ : List Addr} {H : Hp} (h : SrcOk Γ t a s μ H) (h' : SrcOk Γ u b s' μ H) : ItOk Γ (ItzM t u Γ.K a b) (.zip s s') μ H := fun μ' H' st' e sm i => by
  have base : ∀ o, Src.at st' i (.zip s s') = some o → ∃ x y, s.at st' i = some x ∧ s'.at st' i = some y ∧ o = (match x, y with | some x, some y => some (.tup [x, y]) | _, _ => none) := fun o ho => by
    have ho : ((Src.at st' i s).bind fun x => (Src.at st' i s').bind fun y => match x, y with | some x, some y => some (some (W.tup [x, y])) | _, _ => some none) = some o := ho
    cases ex : Src.at st' i s with
    | none => rw [ex] at ho; cases ho
    | some x =>
      rw [ex] at ho
      cases ey : Src.at st' i s' with
      | none => rw [ey] at ho; cases ho
      | some y =>
        rw [ey] at ho
        refine ⟨x, y, rfl, rfl, ?_⟩
        cases x <;> cases y <;> (cases ho; rfl)
  refine ⟨fun w hw => ?_, fun hw => ?_⟩
  · obtain ⟨x, y, ex, ey, eo⟩ := base _ hw
    obtain ⟨xs, q1, q2⟩ := h μ' H' st' e sm i x ex
    obtain ⟨ys, p1, p2⟩ := h' μ' H' st' e sm i y ey
    cases x with
    | none => cases y <;> cases eo
    | some x =>
      cases y with
      | none => cases eo
      | some y =>
        cases eo
        obtain ⟨v1, z1, r1⟩ := q2
        obtain ⟨v2, z2, r2⟩ := p2
        refine ⟨⟨xs, ys, v1, v2, ⟨q1, p1⟩, z1, z2⟩, fun v H'' hy => ?_⟩
        obtain ⟨T, x', y', ⟨rfl, hT, rfl⟩, k1, k2⟩ := hy
        have w1 : x' = v1 := Option.some.inj ((k1 xs q1).symm.trans z1)
        have w2 : y' = v2 := Option.some.inj ((k2 ys p1).symm.trans z2)
        rw [w1, w2]
        have E : Ext Γ.K μ' μ' H' (upd H' T (.tup [v1, v2])) := ext_upd (.inl hT)
        exact ⟨E, sm.other hT, .tup (.inl (.inl upd_same)) (.cons (r1.mono E) (.cons (r2.mono E) .nil))⟩
  · obtain ⟨x, y, ex, ey, eo⟩ := base _ hw
    obtain ⟨xs, q1, q2⟩ := h μ' H' st' e sm i x ex
    obtain ⟨ys, p1, p2⟩ := h' μ' H' st' e sm i y ey
    refine ⟨xs, ys, ⟨q1, p1⟩, ?_⟩
    cases x with
    | none => exact .inl q2
    | some x =>
      cases y with
      | none => exact .inr p2
      | some y => cases eo
theorem qi_zip {p pos tpos : Pos} {elts : List Expr} {kk : Nat} (hK : X.K = Γ.K) (hg : Gl X "zip") (hm : X.mg "zip" = none) (ha : PA X [a, b] (tA Γ Wx eas)) (hs : starEach [a, b] X.env = (false, eval a X.env) :: starEach [b] X.env := by rfl) (hpl : (backTo pos (starEach [b] X.env)).any (·.1) = false := by rfl) :
    PI X (.Tuple elts kk tpos) (.Call (.Name "zip" p) [a, b] [] pos) (tI Γ Wx (vZip eas)) :=
  PI_imp (pi_zipM hg hm ha hs hpl) fun σ H R ⟨μ, l, st, hs, hl, h⟩ => vbind hs hl h _ fun ws st1 μ1 H1 xs e1 s1 r1 h1 => by
    rw [hK]
    cases r1 with
    | nil => exact h1.elim
    | @cons w1 v1 _ _ r tl =>
      cases tl with
      | nil => exact h1.elim
      | @cons w2 v2 _ _ r2 tl2 =>
        cases tl2 with
        | cons _ _ => exact h1.elim
        | nil =>
          dsimp only at h1
          cases e3 : srcOf st1 w1 with
          | none => rw [e3] at h1; exact h1.elim
          | some s =>
            cases e4 : srcOf st1 w2 with
            | none => rw [e3, e4] at h1; exact h1.elim
            | some s' =>
              rw [e3, e4] at h1
              obtain ⟨t, a, xs, ev, q1, k1⟩ := srcOf_ok s1 e3 r
              obtain ⟨u, b, ys, ev2, q2, k2⟩ := srcOf_ok s1 e4 r2
              subst ev ev2
              exact ⟨t, u, a, b, xs, ys, rfl, ⟨q1, q2⟩, h1 μ1 H1 _ .refl s1 (itok_zip k1 k2)⟩
end
end RB

set_option Elab.async false
set_option linter.all false
set_option maxRecDepth 100000
set_option maxHeartbeats 4000000
namespace RB
open PySem PySem.Spec PyProof.Rows L2
abbrev SuTS := Addr → Value → Option Addr → TS
/-- where a clause's name is forgotten -/
def Ends.gone (D : Ends) (i : Nat) : Ends := { nx := fun τ G => D.nx (τ.set i none) G, rt := D.rt, bk := fun τ G => D.bk (τ.set i none) G, ct := fun τ G => D.ct (τ.set i none) G }
def wHs (K : PySem.W.Frag) (i : Nat) (Wo : WX) (D : Ends) : List (Value × SuTS) → WX
  | [] => Wo
  | (c, ts) :: r => fun cls d τ G => ∃ b, PySem.W.exmOne K cls c = some b ∧ (b = true → ∀ a, G a = none → ts a cls d (Ends.gone D i) (τ.set i (some (.ref a))) G) ∧ (b = false → wHs K i Wo D r cls d τ G)
inductive HsOk (X : Cx) (n : Str) : List ExceptHandler → List (Value × SuTS) → Prop
  | nil : HsOk X n [] []
  | cons {x : Str} {c : Value} {ts : SuTS} {b0 : Stmt} {su : List Stmt} {p1 p2 : Pos} {hs : List ExceptHandler} {l : List (Value × SuTS)} (hc : Names X x c)
      (hsu : ∀ (a : Addr) (oe : Obj) (cls : Value) (d : Option Addr) (pn : List (Addr × Obj)), Zc cls d oe → (∃ vs, oe.data = .fields vs) → PSs (X.suite a ((a, oe) :: pn)) (b0 :: su) (ts a cls d)) (r : HsOk X n hs l) : HsOk X n (.ExceptHandler (some (.Name x p1)) (some n) (b0 :: su) p2 :: hs) ((c, ts) :: l)
section
variable {X : Cx} {n : Str} {i : Nat} {body : List Stmt} {h1 : ExceptHandler} {hs : List ExceptHandler} {l : List (Value × SuTS)} {pos : Pos} {tb : WX → TS} {Wo : WX}
theorem ps_tryN (est : X.stack = X.env :: X.outer) (efr : X.env.frame = some X.env.locals) (nd : X.N.Nodup) (ni : X.N[i]? = some n) (nl : X.env.kindOf n = some .local) (tk : Takes X Wo)
    (hb : ∀ (W : WX) (pn : List (Addr × Obj)) (xe : Value → Shared → Prop), Takes (X.tr pn xe) W → PassesOwn (model X.prog X.w) X.A X.env xe → PSs (X.tr pn xe) body (tb W))
    (hh : HsOk X n (h1 :: hs) l) : PS X (.Try body (h1 :: hs) [] [] pos) (fun D τ G => tb (wHs X.K i Wo D l) D τ G) := by
  refine ⟨fun pins s τ G D I h => ?_⟩
  have ok := I.ok
  have fro : X.A.frames = some (X.env :: X.outer) := by rw [ok.frames, est]
  have loc : Loc X.env.scope n := .inl nl
  refine wpAny_Try_except ?_
  refine wpAny_mono ((hb (wHs X.K i Wo D l) (X.pn ++ pins) (fun e z1 => wpAny (model X.prog X.w) X.A (noteFrame e X.env) (fun _ z2 => wpAny (model X.prog X.w) X.A (setFlight e none) (fun _ z3 =>
    wpAny (model X.prog X.w) X.A (handleBy e X.env (h1 :: hs)) (SP X pins D) X.xe z3) X.xe z2) X.xe z1) (fun u z xx => ?_) PassesOwn.looking).run [] s τ G D (I.toTry _) h) (fun f z hsp => ?_) (fun e z he => he)
  · obtain ⟨a, B, sI, pins', τ', G', cls, d, rfl, J', nb, up, sky, na, os, ag, w⟩ := xx
    have J : Inv X pins τ' G' sI := J'.ofTry ok
    have sk : Sky B (X.env :: X.outer) a (Zc cls d) X.env.locals z.heap := by rw [← est]; exact sky
    show wpAny (model X.prog X.w) X.A (noteFrame (.ref a) X.env) _ _ _
    refine Sky.land Zc.steady fro efr sk fun g3 f3 u3 => ?_
    have K3 : Inv X pins τ' G' { z with heap := g3 } := J.landed nb f3.1 (up.trans u3) os ag
    obtain ⟨o3, v3, e3, z3, d3⟩ := f3.there
    have nfr : a ∉ frs (X.env :: X.outer) := fun hm => by
      obtain ⟨_, o', e', hnf⟩ := f3.2.2.1.mem hm
      rw [e3] at e'; cases e'
      exact hnf _ d3
    have nL : a ≠ X.env.locals := fun q => nfr (List.mem_filterMap.mpr ⟨X.env, List.mem_cons_self, by rw [efr, q]⟩)
    have nF : a ∉ X.fs := fun hm => by
      obtain ⟨e, he, q⟩ := List.mem_filterMap.mp hm
      exact nfr (List.mem_filterMap.mpr ⟨e, List.mem_cons_of_mem _ he, q⟩)
    have T3 := K3.suite e3 d3 na nL nF
    have go : ∀ {hs' : List ExceptHandler} {l' : List (Value × SuTS)}, HsOk X n hs' l' → wHs X.K i Wo D l' cls d τ' G' → wpAny (model X.prog X.w) X.A (handleBy (.ref a) X.env hs') (SP X pins D) X.xe { z with heap := g3 } := by
      intro hs' l' hk
      induction hk with
      | nil =>
        intro w
        refine wpAny_handleBy_nil ?_
        obtain ⟨_, _, _, oe, vs, T, oT, ts', he, _, hd, q1, _⟩ := id f3
        unfold PySem.passOn
        refine wpAny_bind (wpAny_field he hd q1 ?_)
        rw [if_neg (by simp : ¬ ((Value.ref T == Value.none) = true))]
        have fin : wpAny (model X.prog X.w) X.A (setFlight (.ref a) X.env.frame) (fun _ z4 => wpAny (model X.prog X.w) X.A (throw (.ref a) : Sem Flow) (SP X pins D) X.xe z4) X.xe { z with heap := g3 } := by
          rw [efr]
          refine HandSPX.setFlight_upZ f3 fun g4 hh4 u4 => wpAny_throw (tk _ _ ?_)
          exact ⟨a, B, sI, pins, τ', G', cls, d, rfl, J, nb, (up.trans u3).trans u4, .inr (.inr (by rw [est]; exact hh4)), na, os, ag, w⟩
        first | exact wpAny_bind (wpAny_pure (wpAny_bind fin)) | exact wpAny_bind fin
      | @cons x c ts b0 su p1 p2 hs2 l2 hc hsu r ih =>
        intro ⟨b, hb1, yes, no⟩
        refine wpAny_handleBy_cons (codeAny_handlers_test ?_) (by intro q; cases q)
        have LT : PySem.W.Looks (model X.prog X.w) g3 (typeOf (.ref a)) cls := fun A Q E s k q => wpAny_typeOf_ref (k _ _ e3) (by rw [z3.1]; exact q)
        have LM := PySem.W.exm_one (M := model X.prog X.w) (K3.kIn) LT hb1
        have test : ∀ {Q : Value → Shared → Prop} {E : Value → Shared → Prop}, Q c { z with heap := g3 } → wpAny (model X.prog X.w) (X.A.mark (some (.ref a))) (eval (.Name x p1) X.env) Q E { z with heap := g3 } := fun {Q E} q => by
          obtain ⟨hg, hdbg, hm | ⟨hm, hv, hnn⟩⟩ := hc
          · exact ld_glob (X := X.suite a ((a, o3) :: (X.pn ++ pins))) T3 hg hm q hdbg
          · exact ld_blt (X := X.suite a ((a, o3) :: (X.pn ++ pins))) T3 hg hm hv q hnn hdbg
        refine test (LM.here ?_)
        cases b with
        | true =>
          refine codeAny_handlers_suite_as ?_
          refine HandSPX.lands_againZ f3 fun g4 f4 u4 => ?_
          have K4 : Inv X pins τ' G' { z with heap := g4 } := J.landed nb f4.1 ((up.trans u3).trans u4) os ag
          obtain ⟨o4, v4, e4, z4, d4⟩ := f4.there
          have T4 := K4.suite e4 d4 na nL nF
          refine store_ok (X := X.suite a ((a, o4) :: (X.pn ++ pins))) (v := .ref a) T4 nd ni loc rfl (fun s5 T5 => ?_) (.inr nl)
          refine wpAny_mono ((hsu a o4 cls d (X.pn ++ pins) z4 ⟨_, d4⟩).run [] s5 _ G' _ T5 (yes rfl a na)) (fun f s6 hsp => ?_) (fun _ _ q => False.elim q)
          have close : ∀ {τ6 : L2.St} {G6 : Hp} {Q : Shared → Prop}, Inv (X.suite a ((a, o4) :: (X.pn ++ pins))) [] τ6 G6 s6 → (∀ s7, Inv X pins (τ6.set i none) G6 s7 → Q s7) →
              wpAny (model X.prog X.w) X.A (do bindName X.env n .none; unbindBehindTheSuite X.env n p2) (fun _ s7 => Q s7) X.xe s6 := fun {τ6 G6 Q} T6 hq => gone_ok (T6.unsuite ok) nd ni nl hq
          cases f with
          | ret u => obtain ⟨v6, τ6, G6, T6, r6, q6⟩ := hsp; exact close T6 fun s7 J7 => ⟨_, _, _, J7, r6, q6⟩
          | next => obtain ⟨τ6, G6, T6, q6⟩ := hsp; exact close T6 fun s7 J7 => ⟨_, _, J7, q6⟩
          | brk => obtain ⟨τ6, G6, T6, q6⟩ := hsp; exact close T6 fun s7 J7 => ⟨_, _, J7, q6⟩
          | cont => obtain ⟨τ6, G6, T6, q6⟩ := hsp; exact close T6 fun s7 J7 => ⟨_, _, J7, q6⟩
        | false =>
          show wpAny _ X.A (handleBy (.ref a) X.env hs2) _ _ _
          exact ih (no rfl)
    exact go hh w
  · cases f with
    | ret u => obtain ⟨v, τ', G', J', r, q⟩ := hsp; exact ⟨v, τ', G', J'.ofTry ok, r, q⟩
    | next => obtain ⟨τ', G', J', q⟩ := hsp; exact wpAny_execs_nil ⟨τ', G', J'.ofTry ok, q⟩
    | brk => obtain ⟨τ', G', J', q⟩ := hsp; exact ⟨τ', G', J'.ofTry ok, q⟩
    | cont => obtain ⟨τ', G', J', q⟩ := hsp; exact ⟨τ', G', J'.ofTry ok, q⟩
end
section
variable {X : Cx} {Γ : Gm} {Wx : WX} {e : Expr} {ea : Ev}
def sAug (i : Nat) (f : Int → Int → Int) (a : Ev) : Sx := fun l st => match l[i]? with
  | some (some (.int x)) => xs (a l st) l fun w st1 => match w with | .int y => .nx (l.set i (some (.int (f x y)))) st1 | _ => .err
  | _ => .err
theorem qs_aug {f : Int → Int → Int} {op : Operator} {i : Nat} {x : Str} {pos pos' : Pos} (ho : PIp X op (ipI f)) (hN : X.N.Nodup) (hi : X.N[i]? = some x) (hx : L2.Loc X.env.scope x) (he : PE X e (tE Γ Wx ea)) (hf : X.fn x = true ∨ X.env.scope.names.lookup x = some .local := by first | exact .inl rfl | exact .inr rfl | assumption) :
    PS X (.AugAssign (.Name x pos') op e pos) (tS Γ Wx (sAug i f ea)) :=
  PS_imp (ps_aug hN hi hx he ho hf) fun D σ H ⟨μ, l, st, hs, hl, h⟩ => by
    unfold sAug at h
    cases e1 : l[i]? with
    | none => rw [e1] at h; exact h.elim
    | some o =>
      rw [e1] at h
      cases o with
      | none => exact h.elim
      | some w0 =>
        obtain ⟨v, q1, q2⟩ := hl.2 i w0 e1
        cases w0 with
        | int a =>
          refine ⟨v, q1, ?_⟩
          cases q2
          exact tG_bindS hs hl h _ fun w st1 μ1 H1 u e1 s1 r1 h1 => by
            cases w with
            | int b =>
              cases r1
              exact ⟨a, b, rfl, rfl, h1.here s1 ((hl.mono e1).set (.int _) i)⟩
            | _ => exact h1.elim
        | _ => exact h.elim
end
end RB

set_option Elab.async false
set_option linter.all false
set_option maxRecDepth 100000
set_option maxHeartbeats 4000000
namespace RB
open PySem PySem.Spec PyProof.Rows L2
section
variable {α β : Type}
abbrev XP := Nat → W → Sto → Prop
def Ok (r : Res α) (X : XP) (P : α → Sto → Prop) : Prop := match r with | .ok a st => P a st | .exc c p st => X c p st | .err => False
structure Po4 where
  nx : Lo → Sto → Prop
  rt : W → Sto → Prop
  bk : Lo → Sto → Prop
  ct : Lo → Sto → Prop
  ex : Nat → W → Lo → Sto → Prop
def OkS (r : RS) (D : Po4) : Prop := match r with | .nx l st => D.nx l st | .rt w st => D.rt w st | .bk l st => D.bk l st | .ct l st => D.ct l st | .exc c p l st => D.ex c p l st | .err => False
variable {X : XP} {P : W → Sto → Prop} {PB : Bool → Sto → Prop} {PL : List W → Sto → Prop} {D : Po4} {l : Lo} {st : Sto} {a b c : Ev} {ba bb : Bv} {as : Evs} {sa sb : Sx}
theorem k_ok {a : α} {P : α → Sto → Prop} : Ok (.ok a st) X P = P a st := rfl
theorem k_exc {n : Nat} {p : W} {P : α → Sto → Prop} : Ok (.exc n p st) X P = X n p st := rfl
theorem k_err {P : α → Sto → Prop} : Ok .err X P = False := rfl
theorem k_bind {r : Res α} {k : α → Sto → Res β} {P : β → Sto → Prop} : Ok (r.bind k) X P = Ok r X fun a st => Ok (k a st) X P := by cases r <;> rfl
theorem k_ite {q : Prop} [Decidable q] {r s : Res α} {P : α → Sto → Prop} : Ok (if q then r else s) X P = if q then Ok r X P else Ok s X P := by split <;> rfl
theorem k_iteS {q : Prop} [Decidable q] {r s : RS} : OkS (if q then r else s) D = if q then OkS r D else OkS s D := by split <;> rfl
theorem k_nx : OkS (.nx l st) D = D.nx l st := rfl
theorem k_rt {w : W} : OkS (.rt w st) D = D.rt w st := rfl
theorem k_xs {r : Res α} {k : α → Sto → RS} : OkS (xs r l k) D = Ok r (fun c p st => D.ex c p l st) fun a st => OkS (k a st) D := by cases r <;> rfl
theorem k_loc {i : Nat} : Ok (eLoc i l st) X P = match l[i]? with | some (some w) => P w st | _ => False := by unfold eLoc; rcases l[i]? with _ | (_ | _) <;> rfl
theorem k_lit {w : W} : Ok (eLit w l st) X P = P w st := rfl
theorem k_nil : Ok (evNil l st) X PL = PL [] st := rfl
theorem k_cons : Ok (evCons a as l st) X PL = Ok (a l st) X fun x st1 => Ok (as l st1) X fun xs st2 => PL (x :: xs) st2 := by unfold evCons; simp only [k_bind, k_ok]
theorem k_tup : Ok (eTup as l st) X P = Ok (as l st) X fun ws st1 => if ws.length ≤ 1000 then P (.tup ws) st1 else False := by unfold eTup; simp only [k_bind, k_ite, k_ok, k_err]
theorem k_lst : Ok (eLst as l st) X P = Ok (as l st) X fun ws st1 => if ws.length ≤ 1000 then P (.ref st1.c.length) (st1.push (.lst ws)) else False := by unfold eLst; simp only [k_bind, k_ite, k_ok, k_err]
theorem k_bin {op : W → W → Sto → Res W} : Ok (eBin op a b l st) X P = Ok (a l st) X fun x st1 => Ok (b l st1) X fun y st2 => Ok (op x y st2) X P := by unfold eBin; simp only [k_bind]
theorem k_eB {F : List W → Sto → Res W} : Ok (eB F as l st) X P = Ok (as l st) X fun ws st1 => Ok (F ws st1) X P := by unfold eB; simp only [k_bind]
theorem k_eU {F : W → Sto → Res W} : Ok (eU F a l st) X P = Ok (a l st) X fun ws st1 => Ok (F ws st1) X P := by unfold eU; simp only [k_bind]
theorem k_call {F : List W → Sto → Res W} {dws : List W} : Ok (eCall F dws as l st) X P = Ok (as l st) X fun ws st1 => Ok (F (ws ++ dws) st1) X P := by unfold eCall; simp only [k_bind]
theorem k_tru : Ok (bTru a l st) X PB = Ok (a l st) X fun w st1 => match truth st1 w with | some b => PB b st1 | none => False := by
  unfold bTru; simp only [k_bind]; congr 1; funext w st1; cases truth st1 w <;> rfl
theorem k_not : Ok (bNot ba l st) X PB = Ok (ba l st) X fun b st1 => PB (!b) st1 := by unfold bNot; simp only [k_bind, k_ok]
theorem k_and : Ok (bAnd ba bb l st) X PB = Ok (ba l st) X fun c st1 => if c = true then Ok (bb l st1) X PB else PB false st1 := by unfold bAnd; simp only [k_bind, k_ite, k_ok]
theorem k_or : Ok (bOr ba bb l st) X PB = Ok (ba l st) X fun c st1 => if c = true then PB true st1 else Ok (bb l st1) X PB := by unfold bOr; simp only [k_bind, k_ite, k_ok]
theorem k_if : Ok (eIf ba a b l st) X P = Ok (ba l st) X fun k st1 => if k = true then Ok (a l st1) X P else Ok (b l st1) X P := by unfold eIf; simp only [k_bind, k_ite]
theorem k_eAnd : Ok (eAnd a b l st) X P = Ok (a l st) X fun x st1 => match x with | .bl c => if c = true then Ok (b l st1) X P else P (.bl false) st1 | _ => False := by
  unfold eAnd; simp only [k_bind]; congr 1; funext w st1; cases w <;> simp only [k_ite, k_ok, k_err]
theorem k_eOr : Ok (eOr a b l st) X P = Ok (a l st) X fun x st1 => match x with | .bl c => if c = true then P (.bl true) st1 else Ok (b l st1) X P | _ => False := by
  unfold eOr; simp only [k_bind]; congr 1; funext w st1; cases w <;> simp only [k_ite, k_ok, k_err]
theorem k_eNot : Ok (eNot a l st) X P = Ok (a l st) X fun x st1 => match x with | .bl c => P (.bl (!c)) st1 | _ => False := by
  unfold eNot; simp only [k_bind]; congr 1; funext w st1; cases w <;> simp only [k_ok, k_err]
theorem k_val : Ok (bVal a l st) X PB = Ok (a l st) X fun x st1 => match x with | .bl c => PB c st1 | _ => False := by
  unfold bVal; simp only [k_bind]; congr 1; funext w st1; cases w <;> simp only [k_ok, k_err]
theorem k_chain {op op' : W → W → Sto → Res W} : Ok (eChain op op' a b c l st) X P = Ok (a l st) X fun x st1 => Ok (b l st1) X fun y st2 => Ok (op x y st2) X fun z st3 => match z with | .bl k => if k = true then Ok (c l st3) X fun w st4 => Ok (op' y w st4) X P else P (.bl false) st3 | _ => False := by
  unfold eChain; simp only [k_bind]; congr 1; funext w st1; congr 1; funext y st2; congr 1; funext z st3; cases z <;> simp only [k_ite, k_bind, k_ok, k_err]
theorem k_sNil : OkS (sNil l st) D = D.nx l st := rfl
theorem k_sSeq : OkS (sSeq sa sb l st) D = OkS (sa l st) { D with nx := fun l1 st1 => OkS (sb l1 st1) D } := by unfold sSeq; cases sa l st <;> rfl
theorem k_sSet {tg : Tg} : OkS (sSet tg a l st) D = Ok (a l st) (fun c p st => D.ex c p l st) fun w st1 => match tg w l st1 with | some l1 => D.nx l1 st1 | none => False := by
  unfold sSet; rw [k_xs]; congr 1; funext w st1; cases tg w l st1 <;> rfl
theorem k_sSetN {i : Nat} : OkS (sSet (tgName i) a l st) D = Ok (a l st) (fun c p st => D.ex c p l st) fun w st1 => D.nx (l.set i (some w)) st1 := by rw [k_sSet]; rfl
theorem k_sDrop : OkS (sDrop a l st) D = Ok (a l st) (fun c p st => D.ex c p l st) fun w st1 => D.nx l st1 := by unfold sDrop; rw [k_xs]; rfl
theorem k_sRet : OkS (sRet a l st) D = Ok (a l st) (fun c p st => D.ex c p l st) fun w st1 => D.rt w st1 := by unfold sRet; rw [k_xs]; rfl
theorem k_sRetN : OkS (sRetN l st) D = D.rt .non st := rfl
theorem k_sIf : OkS (sIf ba sa sb l st) D = Ok (ba l st) (fun c p st => D.ex c p l st) fun k st1 => if k = true then OkS (sa l st1) D else OkS (sb l st1) D := by unfold sIf; rw [k_xs]; congr 1; funext k st1; rw [k_iteS]
theorem k_sBreak : OkS (sBreak l st) D = D.bk l st := rfl
theorem k_sCont : OkS (sCont l st) D = D.ct l st := rfl
theorem k_sFor {n : Nat} {src : Lo → Sto → Res Src} {tg : Tg} : OkS (sFor n src tg sa l st) D = Ok (src l st) (fun c p st => D.ex c p l st) fun s st1 => OkS (loopF s tg sa n 0 l st1) D := by unfold sFor; rw [k_xs]
theorem k_sRaise {n : Nat} : OkS (sRaise n as l st) D = Ok (as l st) (fun c p st => D.ex c p l st) fun ws st1 => match ws with | [w] => D.ex n w l st1 | _ => False := by
  unfold sRaise; rw [k_xs]; congr 1; funext ws st1; rcases ws with _ | ⟨w, _ | ⟨_, _⟩⟩ <;> rfl
theorem k_sTry {is : Nat → Option Bool} {g : W → W} : OkS (sTry is g sa l st) D = OkS (sa l st) { D with ex := fun c p l1 st1 => match is c with | some true => D.rt (g p) st1 | some false => D.ex c p l1 st1 | none => False } := by
  unfold sTry; cases sa l st <;> try rfl
  rename_i c p l1 st1
  show OkS (match is c with | some true => .rt (g p) st1 | some false => .exc c p l1 st1 | none => .err) D = (match is c with | some true => D.rt (g p) st1 | some false => D.ex c p l1 st1 | none => False)
  rcases is c with _ | (_ | _) <;> rfl
theorem k_defn {n : Nat} {body : Sx} {ws : List W} {st : Sto} : Ok (defn n body ws st) X P = OkS (body (ws.map some ++ List.replicate (n - ws.length) none) st)
    { nx := fun _ st' => Ok (trim st.c.length .non st') X P, rt := fun w st' => Ok (trim st.c.length w st') X P, bk := fun _ _ => False, ct := fun _ _ => False, ex := fun c p _ st' => if (st'.may st.c.length && W.pure p) = true then X c p (st'.cut st.c.length) else X c p st' } := by
  unfold defn
  cases body (ws.map some ++ List.replicate (n - ws.length) none) st <;> try rfl
  simp only [OkS]
  split <;> rfl
theorem k_trim {n : Nat} {w : W} {c : List Cell} (h : W.pure w = true) : Ok (trim n w ⟨c, none⟩) X P = P w ⟨c.take n, none⟩ := by
  unfold trim Sto.may Sto.cut
  simp [h, k_ok]
theorem k_vSeqL {n : Nat} {ws : List W} {P : Src → Sto → Prop} : True := trivial
theorem k_vSeq {P : Src → Sto → Prop} : Ok (vSeq a l st) X P = Ok (a l st) X fun w st1 => match w with | .tup ws => P (.fix ws) st1 | .ref n => (match getL st1 n with | some _ => P (.live n) st1 | none => False) | _ => False := by
  unfold vSeq; rw [k_bind]; congr 1; funext w st1; cases w <;> try rfl
  rename_i n
  show Ok (match getL st1 n with | some _ => Res.ok (Src.live n) st1 | none => .err) X P = (match getL st1 n with | some _ => P (.live n) st1 | none => False)
  cases getL st1 n <;> rfl
theorem k_rng1 {P : Src → Sto → Prop} : Ok (vRng1 as l st) X P = Ok (as l st) X fun ws st1 => match ws with | [.int j] => if -1000000 ≤ j ∧ j ≤ 1000000 then P (.fix (upFrom 0 j.toNat)) st1 else False | _ => False := by
  unfold vRng1; rw [k_bind]; congr 1; funext w st1
  rcases w with _ | ⟨w, _ | ⟨_, _⟩⟩
  · rfl
  · cases w <;> first | rfl | exact k_ite.trans rfl
  · cases w <;> rfl
end
section
variable {D : Po4}
/-- a for over fixed items -/
theorem loop_fix {tg : Tg} {body : Sx} {s : Src} (ws : List W) (Inv : Nat → Lo → Sto → Prop) (hat : ∀ i l st, Inv i l st → s.at st i = some ws[i]?)
    (step : ∀ i w l st, ws[i]? = some w → Inv i l st → ∃ l1, tg w l st = some l1 ∧ OkS (body l1 st) { D with nx := Inv (i + 1), ct := Inv (i + 1), bk := D.nx })
    (done : ∀ l st, Inv ws.length l st → D.nx l st) : ∀ (f i : Nat) (l : Lo) (st : Sto), ws.length < f + i → i ≤ ws.length → Inv i l st → OkS (loopF s tg body f i l st) D
  | 0, i, l, st, h, h2, _ => by omega
  | f + 1, i, l, st, h, h2, inv => by
    unfold loopF
    rw [hat i l st inv]
    cases e : ws[i]? with
    | none =>
      have : i = ws.length := by
        have := List.getElem?_eq_none_iff.mp e
        omega
      subst this
      exact done l st inv
    | some w =>
      obtain ⟨l1, h3, h4⟩ := step i w l st e inv
      have hi : i < ws.length := (List.getElem?_eq_some_iff.mp e).1
      simp only [h3]
      generalize body l1 st = r at h4 ⊢
      cases r with
      | nx l2 st2 => exact loop_fix ws Inv hat step done f (i + 1) l2 st2 (by omega) (by omega) h4
      | ct l2 st2 => exact loop_fix ws Inv hat step done f (i + 1) l2 st2 (by omega) (by omega) h4
      | bk l2 st2 => exact h4
      | rt w2 st2 => exact h4
      | exc c p l2 st2 => exact h4
      | err => exact h4
/-- a comprehension's loop: acc is what is gathered -/
theorem cloop_fix {tg : Tg} {own : List Nat} {cond : Bv} {elt : Ev} {D0 : Nat} {s : Src} {l : Lo} {X : XP} {P : Unit → Sto → Prop} (ws : List W) (Inv : Nat → List W → Sto → Prop) (hat : ∀ i acc st, Inv i acc st → s.at st i = some ws[i]?)
    (step : ∀ i w acc st, ws[i]? = some w → Inv i acc st → ∃ l1, tg w (wipeL l own) st = some l1 ∧ Ok (cond l1 st) (fun _ _ _ => False) fun b st1 => if b = true then Ok (elt l1 st1) (fun _ _ _ => False) fun y st2 => ∃ us, st2.c[D0]? = some (.lst us) ∧ us.length < 1000000 ∧ Inv (i + 1) (acc ++ [y]) (st2.put D0 (.lst (us ++ [y])) (W.low D0 y)) else Inv (i + 1) acc st1)
    (done : ∀ acc st, Inv ws.length acc st → P () st) : ∀ (f i : Nat) (acc : List W) (st : Sto), ws.length < f + i → i ≤ ws.length → Inv i acc st → Ok (cLoop s tg own cond (cApp elt D0) l f i st) X P
  | 0, i, acc, st, h, h2, _ => by omega
  | f + 1, i, acc, st, h, h2, inv => by
    unfold cLoop
    rw [hat i acc st inv]
    cases e : ws[i]? with
    | none =>
      have : i = ws.length := by
        have := List.getElem?_eq_none_iff.mp e
        omega
      subst this
      exact done acc st inv
    | some w =>
      obtain ⟨l1, h3, h4⟩ := step i w acc st e inv
      have hi : i < ws.length := (List.getElem?_eq_some_iff.mp e).1
      simp only [h3]
      generalize cond l1 st = r at h4 ⊢
      cases r with
      | exc c p st1 => exact h4.elim
      | err => exact h4.elim
      | ok b st1 =>
        cases b with
        | false => exact cloop_fix ws Inv hat step done f (i + 1) acc st1 (by omega) (by omega) h4
        | true =>
          have h4 : Ok (elt l1 st1) (fun _ _ _ => False) fun y st2 => ∃ us, st2.c[D0]? = some (.lst us) ∧ us.length < 1000000 ∧ Inv (i + 1) (acc ++ [y]) (st2.put D0 (.lst (us ++ [y])) (W.low D0 y)) := h4
          simp only [if_true, cApp]
          generalize elt l1 st1 = r at h4 ⊢
          cases r with
          | exc c p st1 => exact h4.elim
          | err => exact h4.elim
          | ok y st2 =>
            obtain ⟨us, h5, h6, h7⟩ := h4
            simp only [h5, h6, if_true]
            exact cloop_fix ws Inv hat step done f (i + 1) (acc ++ [y]) _ (by omega) (by omega) h7
theorem k_comp {n : Nat} {own : List Nat} {src : Sv} {tg : Tg} {cond : Bv} {elt : Ev} {l : Lo} {st : Sto} {X : XP} {P : W → Sto → Prop} : Ok (eComp n own src tg cond elt l st) X P = Ok (src l st) X fun s st1 => Ok (cLoop s tg own cond (cApp elt st1.c.length) l n 0 (st1.push (.lst []))) X fun _ st2 => P (.ref st1.c.length) st2 := by
  unfold eComp; simp only [k_bind, k_ok]
end
end RB

set_option Elab.async false
set_option linter.all false
set_option maxRecDepth 100000
set_option maxHeartbeats 4000000
namespace RB
open PySem PySem.Spec PyProof.Rows L2
abbrev Clause := (Nat → Option Bool) × (W → W)
def tryGo : List Clause → Nat → W → Lo → Sto → RS
  | [], k, p, l, st => .exc k p l st
  | (is, g) :: r, k, p, l, st => match is k with | some true => .rt (g p) st | some false => tryGo r k p l st | none => .err
def sTryM (i : Nat) (cs : List Clause) (body : Sx) : Sx := fun l st => match body l st with
  | .exc k p l1 st1 => if i < l1.length then tryGo cs k p l1 st1 else .err
  | r => r
section
variable {X : Cx} {Γ : Gm} {Wx : WX}
def tsOf (Γ : Gm) (i : Nat) (f : Str) (g : W → W) : SuTS := fun a cls d D σ H => ∃ k, Γ.fld k = f ∧ PySem.ErrX.ErrC Γ.K (Γ.ec k) f ∧ σ[i]? = some (some (.ref a)) ∧ cls = .ref (Γ.ec k) ∧ ∃ dd v μ st p, d = some dd ∧ H dd = some (.xd [(f, v)]) ∧ Sim Γ μ st H ∧ Rep Γ.K μ H p v ∧ ∀ μ' H' u, Ext Γ.K μ μ' H H' → Sim Γ μ' st H' → Rep Γ.K μ' H' (g p) u → D.rt u H'
inductive TryCl (Γ : Gm) (X : Cx) (i : Nat) (n : Str) : List ExceptHandler → List Clause → List (Value × SuTS) → Prop
  | nil : TryCl Γ X i n [] [] []
  | cons {x f : Str} {c : Value} {b0 : Stmt} {su : List Stmt} {p1 p2 : Pos} {is : Nat → Option Bool} {g : W → W} {hs : List ExceptHandler} {cs : List Clause} {l : List (Value × SuTS)} (hc : Names X x c)
      (his : ∀ k b, is k = some b → PySem.W.exmOne Γ.K (.ref (Γ.ec k)) c = some b) (hT : ∀ k, is k = some true → Γ.fld k = f ∧ PySem.ErrX.ErrC Γ.K (Γ.ec k) f) (hsu : SuiteG Γ X i f g (b0 :: su)) (r : TryCl Γ X i n hs cs l) :
      TryCl Γ X i n (.ExceptHandler (some (.Name x p1)) (some n) (b0 :: su) p2 :: hs) ((is, g) :: cs) ((c, tsOf Γ i f g) :: l)
theorem TryCl.ok {i : Nat} {n : Str} {hs : List ExceptHandler} {cs : List Clause} {l : List (Value × SuTS)} (h : TryCl Γ X i n hs cs l) : HsOk X n hs l := by
  induction h with
  | nil => exact .nil
  | cons hc his hT hsu r ih => exact .cons hc (fun a oe cls d pn hz hf => ⟨fun pins s σ H D I ⟨k, h1, h2, h3⟩ => (hsu k h1 h2 a oe cls d pn hz hf).run pins s σ H D I h3⟩) ih
theorem TryCl.wish {i : Nat} {n : Str} {hs : List ExceptHandler} {cs : List Clause} {l : List (Value × SuTS)} (h : TryCl Γ X i n hs cs l) (hK : X.K = Γ.K) {D : Ends} {k : Nat} {p : W} {l1 : Lo} {st1 : Sto} {μ μ1 : List Addr} {H H1 : Hp} {σ1 : L2.St} {d : Addr} {v : V}
    (hP : PostS Γ Wx μ H D (tryGo cs k p l1 st1)) (hi : i < l1.length) (e1 : Ext Γ.K μ μ1 H H1) (s1 : Sim Γ μ1 st1 H1) (lr1 : LRep Γ.K μ1 H1 l1 σ1) (r1 : Rep Γ.K μ1 H1 p v) (q1 : H1 d = some (.xd [(Γ.fld k, v)])) : wHs X.K i Wx D l (.ref (Γ.ec k)) (some d) σ1 H1 := by
  induction h with
  | nil => exact hP μ1 H1 σ1 d v e1 s1 lr1 r1 q1
  | @cons x f c b0 su p1 p2 is g hs cs l hc his hT hsu r ih =>
    have hP : PostS Γ Wx μ H D (match is k with | some true => .rt (g p) st1 | some false => tryGo cs k p l1 st1 | none => .err) := hP
    cases ek : is k with
    | none => rw [ek] at hP; exact hP.elim
    | some b =>
      rw [ek] at hP
      refine ⟨b, by rw [hK]; exact his k b ek, fun hb a ha => ?_, fun hb => ?_⟩
      · subst hb
        obtain ⟨t1, t2⟩ := hT k ek
        have hlt : i < σ1.length := by rw [← lr1.1]; exact hi
        exact ⟨k, t1, t2, by rw [List.getElem?_set_self hlt], rfl, d, v, μ1, st1, p, rfl, by rw [← t1]; exact q1, s1, r1, fun μ2 H2 u e2 s2 r2 => hP μ2 H2 u (e1.trans e2) s2 r2⟩
      · subst hb
        exact ih hP
theorem qs_tryM {n : Str} {i : Nat} {body : List Stmt} {h1 : ExceptHandler} {hs : List ExceptHandler} {cs : List Clause} {lc : List (Value × SuTS)} {pos : Pos} {sx : Sx} (hK : X.K = Γ.K) (est : X.stack = X.env :: X.outer) (efr : X.env.frame = some X.env.locals) (hN : X.N.Nodup) (hi : X.N[i]? = some n) (hln : X.env.kindOf n = some .local) (tk : Takes X Wx)
    (hcl : TryCl Γ X i n (h1 :: hs) cs lc)
    (hb : ∀ (W : WX) (pn : List (Addr × Obj)) (xe : Value → Shared → Prop), Takes (X.tr pn xe) W → PassesOwn (model X.prog X.w) X.A X.env xe → PSs (X.tr pn xe) body (tS Γ W sx)) :
    PS X (.Try body (h1 :: hs) [] [] pos) (tS Γ Wx (sTryM i cs sx)) := by
  refine PS_imp (ps_tryN (Wo := Wx) est efr hN hi hln tk hb hcl.ok) fun D σ H ⟨μ, l, st, hs, hl, h⟩ => ?_
  refine ⟨μ, l, st, hs, hl, ?_⟩
  unfold sTryM at h
  cases e : sx l st with
  | nx l1 st1 => rw [e] at h; exact h
  | rt w st1 => rw [e] at h; exact h
  | bk l1 st1 => rw [e] at h; exact h
  | ct l1 st1 => rw [e] at h; exact h
  | err => rw [e] at h; exact h
  | exc k p l1 st1 =>
    rw [e] at h
    intro μ1 H1 σ1 d v e1 s1 lr1 r1 q1
    dsimp only at h
    by_cases hi : i < l1.length
    · rw [if_pos hi] at h
      exact hcl.wish hK h hi e1 s1 lr1 r1 q1
    · rw [if_neg hi] at h
      exact h.elim
theorem k_tryM {i : Nat} {cs : List Clause} {b : Sx} {l : Lo} {st : Sto} {D : Po4} : OkS (sTryM i cs b l st) D = OkS (b l st) { D with ex := fun c p l1 st1 => if i < l1.length then OkS (tryGo cs c p l1 st1) D else False } := by
  unfold sTryM; cases b l st <;> try rfl
  rename_i c p l1 st1
  show OkS (if i < l1.length then _ else _) D = if i < l1.length then _ else _
  split <;> rfl
theorem k_aug {i : Nat} {f : Int → Int → Int} {a : Ev} {l : Lo} {st : Sto} {D : Po4} {x : Int} (h : l[i]? = some (some (.int x))) : OkS (sAug i f a l st) D = Ok (a l st) (fun c p st => D.ex c p l st) fun w st1 => match w with | .int y => D.nx (l.set i (some (.int (f x y)))) st1 | _ => False := by
  unfold sAug; rw [h]; dsimp only; rw [k_xs]; congr 1; funext w st1; cases w <;> rfl
theorem exm_own {K : PySem.W.Frag} {C E : Addr} {b : Bool} (ic : PySem.W.isClsIn K C = true) (ty : PySem.W.typeIn K (.ref C) = some (.type "type")) (ex : PySem.W.subIn K (.ref C) (.type "BaseException") = some true) (h : PySem.W.subIn K (.ref E) (.ref C) = some b) : PySem.W.exmOne K (.ref E) (.ref C) = some b := by
  unfold PySem.W.exmOne
  rw [if_pos (by rw [ex]; rfl)]
  have ic' : (PySem.W.clsIn K C).isSome = true := ic
  unfold PySem.W.kitCls
  simp only [ic', ty, h]
  rfl
theorem mk_err_word {K : PySem.W.Frag} {C fI : Addr} {qual : Str} {oc doc pm cdv ct : Value} {od an : Option Addr} {osl : Array (Option Value)} {p1 p2 q1 q2 q3 q4 : Pos} {nm q : Str} {N : Addr} {bs bm : List Value} {sn : List Str} {sub : List Value} {ab : Bool} {col : Option Bool} {dd : Option Addr} {k0 k1 k2 k3 k5 : Option Value}
    (cls : K.lookup C = some (excClassObj nm q C N bs bm true sn sub ab col dd k0 k1 k2 k3 k5 "Exception.__new__")) (hbm : PySem.ErrX.refsEx bm = true)
    (sa : PySem.W.findIn K (.ref C) "__setattr__" = some (some (.builtin "object.__setattr__"))) (ga : PySem.W.findIn K (.ref C) "__getattribute__" = some (some (.builtin "BaseException.__getattribute__"))) (gg : PySem.W.findIn K (.ref C) "__getattr__" = some none)
    (noN : PySem.W.findIn K (.ref C) "word" = some none) (kC : PySem.W.keepIn K (.ref C) = true) (exC : PySem.W.subIn K (.ref C) (.type "BaseException") = some true) (tyC : PySem.W.typeIn K (.ref C) = some (.type "type")) (hdC : PySem.W.hasDictIn K C = true)
    (iI : PySem.W.findIn K (.ref C) "__init__" = some (some (.ref fI))) (tI : PySem.W.typeIn K (.ref fI) = some (.type "function"))
    (fn : K.lookup fI = some ⟨oc, od, .func (PySem.W.fnOf "__init__" qual (PySem.ErrX.iA_word p1 p2) (PySem.ErrX.iB_word q1 q2 q3 q4) PySem.ErrX.iS_word .none .none doc pm an cdv ct), osl⟩) (hcd : PySem.W.codeIn K cdv qual = true) : PySem.ErrX.ErrC K C "word" :=
  { cls := ⟨_, _, _, _, _, _, _, _, _, _, _, _, _, _, _, cls, hbm⟩, sa := sa, ga := ga, gg := gg, noN := noN, kC := kC, exC := exC, tyC := tyC, hdC := hdC,
    ini := ⟨fI, iI, tI, fun prog w A R s x t0 v X hlim hx hnx room want => PySem.ErrX.ini_word fn hcd ⟨_, _, _, _, _, _, _, _, _, _, _, _, _, _, _, cls, hbm⟩ sa noN X hlim hx hnx room want⟩ }
end
end RB

set_option Elab.async false
set_option linter.all false
set_option maxRecDepth 100000
set_option maxHeartbeats 4000000
namespace RB
open PySem PySem.Spec PyProof.Rows L2
section
variable {X : XP} {P : W → Sto → Prop} {st : Sto} {a b : Int}
theorem run_eq {α : Type} {r : Res α} {a : α} {s : Sto} (h : Ok r (fun _ _ _ => False) fun b t => b = a ∧ t = s) : r = .ok a s := by
  cases r with
  | ok b t => obtain ⟨rfl, rfl⟩ := h; rfl
  | exc c p t => exact h.elim
  | err => exact h.elim
theorem run_int {r : Res W} {s : Sto} {Q : Int → Prop} (h : Ok r (fun _ _ _ => False) fun b t => ∃ v, b = .int v ∧ Q v ∧ t = s) : ∃ v, Q v ∧ r = .ok (.int v) s := by
  cases r with
  | ok b t => obtain ⟨v, rfl, q, rfl⟩ := h; exact ⟨v, q, rfl⟩
  | exc c p t => exact h.elim
  | err => exact h.elim
theorem v_add : Ok (wAdd (.int a) (.int b) st) X P = P (.int (a + b)) st := rfl
theorem v_sub : Ok (wSub (.int a) (.int b) st) X P = P (.int (a - b)) st := rfl
theorem v_mul : Ok (wMul (.int a) (.int b) st) X P = if mulOk a b = true then P (.int (a * b)) st else False := by
  show Ok (if mulOk a b = true then Res.ok (W.int (a * b)) st else .err) X P = _; rw [k_ite]; rfl
theorem v_mod : Ok (wMod (.int a) (.int b) st) X P = if 0 < b then P (.int (a % b)) st else False := by
  show Ok (if 0 < b then Res.ok (W.int (a % b)) st else .err) X P = _; rw [k_ite]; rfl
theorem v_div : Ok (wDiv (.int a) (.int b) st) X P = if divOk b = true then P (.int (a / b)) st else False := by
  show Ok (if divOk b = true then Res.ok (W.int (a / b)) st else .err) X P = _; rw [k_ite]; rfl
theorem v_lt : Ok (wLt (.int a) (.int b) st) X P = P (.bl (decide (a < b))) st := rfl
theorem v_le : Ok (wLe (.int a) (.int b) st) X P = P (.bl (decide (a ≤ b))) st := rfl
theorem v_gt : Ok (wGt (.int a) (.int b) st) X P = P (.bl (decide (b < a))) st := rfl
theorem v_ge : Ok (wGe (.int a) (.int b) st) X P = P (.bl (decide (b ≤ a))) st := rfl
theorem v_eq : Ok (wEq (.int a) (.int b) st) X P = P (.bl (decide (a = b))) st := by
  show P (.bl (PyData.eqv (.int a) (.int b))) st = _
  have : PyData.eqv (.int a) (.int b) = decide (a = b) := by first | rfl | simp [PyData.eqv]
  rw [this]
theorem v_ne : Ok (wNe (.int a) (.int b) st) X P = P (.bl (!decide (a = b))) st := by
  show P (.bl (!PyData.eqv (.int a) (.int b))) st = _
  have : PyData.eqv (.int a) (.int b) = decide (a = b) := by first | rfl | simp [PyData.eqv]
  rw [this]
theorem v_neg : Ok (wNeg (.int a) st) X P = P (.int (-a)) st := rfl
theorem v_int : Ok (fInt [.int a] st) X P = P (.int a) st := rfl
theorem v_min : Ok (fMin2 [.int a, .int b] st) X P = P (.int (if b < a then b else a)) st := rfl
theorem v_ix {x : W} {ws : List W} {w : W} (h : seqOf st x = some ws) (h2 : atI ws a = some w) : Ok (wIx x (.int a) st) X P = P w st := by
  unfold wIx; simp only [h, h2]; rfl
theorem v_lenL {x : W} {ws : List W} (hx : ∀ z, x ≠ .str z) (h : seqOf st x = some ws) : Ok (fLen [x] st) X P = P (.int (ws.length : Nat)) st := by
  cases x <;> first | exact absurd rfl (hx _) | (simp only [fLen, h]; rfl)
theorem v_tup {x : W} {ws : List W} (h : seqOf st x = some ws) : Ok (fTuple [x] st) X P = P (.tup ws) st := by
  unfold fTuple; simp only [h]; rfl
theorem atI_in {α : Type} {xs : List α} (h0 : 0 ≤ a) (h1 : a < xs.length) : atI xs a = xs[a.toNat]? := by
  unfold atI ixN; rw [if_pos h0, if_pos h1]; rfl
theorem mulOk_lt {a b : Int} {m n : Nat} (ha : a.natAbs < 2 ^ m) (hb : b.natAbs < 2 ^ n) (h0 : 0 < m) (h1 : 0 < n) (h : m + n ≤ 100000000) : mulOk a b = true := by
  have x := PySem.Flt.log2_lt_of h0 ha
  have y := PySem.Flt.log2_lt_of h1 hb
  unfold mulOk
  exact decide_eq_true (by omega)
end
end RB

set_option Elab.async false
set_option linter.all false
set_option maxRecDepth 100000
set_option maxHeartbeats 4000000
namespace RB
open PySem PySem.Spec PyProof.Rows L2
def frW (q : Rat) : W := .tup [.int q.num, .int (q.den : Nat)]
/-- small parts -/
def Bq (k : Nat) (q : Rat) : Prop := q.num.natAbs < 2 ^ k ∧ q.den < 2 ^ k
theorem Bq.mono {k l : Nat} {q : Rat} (h : Bq k q) (hl : k ≤ l) : Bq l q := ⟨Nat.lt_of_lt_of_le h.1 (Nat.pow_le_pow_right (by decide) hl), Nat.lt_of_lt_of_le h.2 (Nat.pow_le_pow_right (by decide) hl)⟩
theorem natAbs_div_le (a : Int) (g : Nat) (h : (g : Int) ∣ a) : (a / (g : Int)).natAbs ≤ a.natAbs := by
  rw [Int.natAbs_ediv_of_dvd h, Int.natAbs_natCast]
  exact Nat.div_le_self _ _
theorem bd_mk {a : Int} {b k : Nat} (ha : a.natAbs < 2 ^ k) (hb : b < 2 ^ k) (h0 : b ≠ 0) : Bq k (mkRat a b) := by
  constructor
  · rw [Rat.num_mkRat, if_neg h0]
    refine Nat.lt_of_le_of_lt (natAbs_div_le _ _ ?_) ha
    rw [← Int.dvd_natAbs]
    exact Int.ofNat_dvd.mpr (Nat.gcd_dvd_right _ _)
  · rw [Rat.den_mkRat, if_neg h0]
    exact Nat.lt_of_le_of_lt (Nat.div_le_self _ _) hb
theorem bd_mul {p q : Rat} {k l : Nat} (hp : Bq k p) (hq : Bq l q) : Bq (k + l) (p * q) := by
  rw [Rat.mul_def']
  refine bd_mk ?_ ?_ (Nat.mul_ne_zero p.den_nz q.den_nz)
  · rw [Int.natAbs_mul, Nat.pow_add]; exact Nat.mul_lt_mul'' hp.1 hq.1
  · rw [Nat.pow_add]; exact Nat.mul_lt_mul'' hp.2 hq.2
theorem bd_add {p q : Rat} {k l : Nat} (hp : Bq k p) (hq : Bq l q) : Bq (k + l + 1) (p + q) := by
  rw [Rat.add_def']
  have e : (2 : Nat) ^ (k + l + 1) = 2 ^ k * 2 ^ l + 2 ^ l * 2 ^ k := by rw [Nat.pow_succ, Nat.pow_add, Nat.mul_comm (2 ^ l)]; omega
  have a1 := Nat.mul_lt_mul'' hp.1 hq.2
  have a2 := Nat.mul_lt_mul'' hq.1 hp.2
  have a3 := Nat.mul_lt_mul'' hp.2 hq.2
  refine bd_mk ?_ (by omega) (Nat.mul_ne_zero p.den_nz q.den_nz)
  rw [e]
  refine Nat.lt_of_le_of_lt (Int.natAbs_add_le _ _) ?_
  rw [Int.natAbs_mul, Int.natAbs_mul, Int.natAbs_natCast, Int.natAbs_natCast]
  omega
theorem bd_neg {p : Rat} {k : Nat} (hp : Bq k p) : Bq k (-p) := ⟨by rw [Rat.neg_num, Int.natAbs_neg]; exact hp.1, hp.2⟩
theorem bd_sub {p q : Rat} {k l : Nat} (hp : Bq k p) (hq : Bq l q) : Bq (k + l + 1) (p - q) := by
  rw [Rat.sub_eq_add_neg]; exact bd_add hp (bd_neg hq)
theorem bd_inv {p : Rat} {k : Nat} (hp : Bq k p) (h1 : 1 ≤ k) : Bq k p⁻¹ := by
  constructor
  · rw [Rat.num_inv, Int.natAbs_mul, Int.natAbs_natCast]
    have : p.num.sign.natAbs ≤ 1 := by rw [Int.natAbs_sign]; split <;> omega
    have h2 := Nat.mul_le_mul_right p.den this
    rw [Nat.one_mul] at h2
    exact Nat.lt_of_le_of_lt h2 hp.2
  · rw [Rat.den_inv]
    split
    · exact Nat.lt_of_lt_of_le (by decide : 1 < 2 ^ 1) (Nat.pow_le_pow_right (by decide) h1)
    · exact hp.1
theorem bd_int {a : Int} {k : Nat} (ha : a.natAbs < 2 ^ k) (h1 : 1 ≤ k) : Bq k (a : Rat) := ⟨ha, Nat.lt_of_lt_of_le (by decide : 1 < 2 ^ 1) (Nat.pow_le_pow_right (by decide) h1)⟩
theorem mul_bd {a b : Int} (ha : a.natAbs < 2 ^ 4000) (hb : b.natAbs < 2 ^ 4000) : mulOk a b = true := mulOk_lt ha hb (by omega) (by omega) (by omega)
theorem div_bd {b : Nat} (h0 : 0 < b) (hb : b < 2 ^ 8000) : divOk (b : Int) = true := by
  unfold divOk
  rw [decide_eq_true (by omega : (0 : Int) < (b : Int)), Int.natAbs_natCast, Bool.true_and]
  refine decide_eq_true ?_
  have : b.log2 < 8000 := (Nat.log2_lt (by omega)).mpr hb
  omega
theorem frW_int (a : Int) : frW (a : Rat) = .tup [.int a, .int 1] := rfl
theorem frW_mk {a : Int} {b : Nat} (h0 : b ≠ 0) : frW (mkRat a b) = .tup [.int (a / ((Nat.gcd a.natAbs b : Nat) : Int)), .int (((b : Nat) : Int) / ((Nat.gcd a.natAbs b : Nat) : Int))] := by
  unfold frW
  rw [Rat.num_mkRat, Rat.den_mkRat, if_neg h0, if_neg h0, Nat.gcd_comm, Int.natCast_ediv]
theorem frW_lit {a : Int} {b : Nat} (h0 : b ≠ 0) (h : Nat.gcd a.natAbs b = 1) : frW (mkRat a b) = .tup [.int a, .int (b : Nat)] := by
  rw [frW_mk h0, h]; simp
theorem frW_inj {p q : Rat} (h : frW p = frW q) : p = q := by
  unfold frW at h
  injection h with h
  injection h with h1 h2
  injection h2 with h2 _
  injection h1 with h1
  injection h2 with h2
  exact Rat.ext h1 (by omega)
theorem frW_inv {q : Rat} (h : 0 < q) : frW q⁻¹ = .tup [.int (q.den : Nat), .int q.num] := by
  have h1 : 0 < q.num := by
    rcases Int.lt_trichotomy q.num 0 with z | z | z
    · exact absurd (Rat.num_nonneg.mpr (Rat.le_of_lt h)) (by omega)
    · exact absurd (Rat.num_eq_zero.mp z) (fun e => Rat.lt_irrefl (e ▸ h))
    · exact z
  unfold frW
  rw [Rat.num_inv, Rat.den_inv, if_neg (by omega), Int.sign_eq_one_of_pos h1, Int.one_mul, show ((q.num.natAbs : Nat) : Int) = q.num by omega]
theorem floor_mk {a : Int} {b : Nat} (h0 : 0 < b) : (mkRat a b).floor = a / (b : Int) := by
  rw [Rat.floor_def, Rat.num_mkRat, Rat.den_mkRat, if_neg (by omega), if_neg (by omega), Int.natCast_ediv]
  have g0 : 0 < Nat.gcd b a.natAbs := Nat.gcd_pos_of_pos_left _ h0
  have gp : 0 < ((Nat.gcd b a.natAbs : Nat) : Int) := by omega
  obtain ⟨x, hx⟩ : ((Nat.gcd b a.natAbs : Nat) : Int) ∣ a := by rw [← Int.dvd_natAbs]; exact Int.ofNat_dvd.mpr (Nat.gcd_dvd_right _ _)
  obtain ⟨y, hy⟩ : ((Nat.gcd b a.natAbs : Nat) : Int) ∣ (b : Int) := Int.ofNat_dvd.mpr (Nat.gcd_dvd_left _ _)
  generalize ((Nat.gcd b a.natAbs : Nat) : Int) = g at *
  have g1 : g ≠ 0 := by omega
  rw [hx, hy, Int.mul_ediv_cancel_left _ g1, Int.mul_ediv_cancel_left _ g1, Int.mul_ediv_mul_of_pos _ _ gp]
theorem mk_div (a : Int) (b : Nat) : mkRat a b = (a : Rat) / (b : Rat) := Rat.mkRat_eq_div a b
end RB
namespace RB
open PySem PySem.Spec PyProof.Rows L2
def sumQ (xs : List Rat) : Rat := xs.foldl (· + ·) 0
theorem sumQ_snoc (xs : List Rat) (q : Rat) : sumQ (xs ++ [q]) = sumQ xs + q := by unfold sumQ; rw [List.foldl_append]; rfl
theorem foldl_addQ (xs : List Rat) (a : Rat) : xs.foldl (· + ·) a = a + sumQ xs := by
  induction xs generalizing a with
  | nil => show a = a + 0; rw [Rat.add_zero]
  | cons x r ih =>
    show r.foldl (· + ·) (a + x) = a + r.foldl (· + ·) (0 + x)
    rw [ih, ih (0 + x), Rat.zero_add, Rat.add_assoc]
theorem sumQ_cons (x : Rat) (r : List Rat) : sumQ (x :: r) = x + sumQ r := by
  show r.foldl (· + ·) (0 + x) = _
  rw [foldl_addQ, Rat.zero_add]
theorem sumQ_nil : sumQ [] = 0 := rfl
theorem bq_sum {k : Nat} : ∀ {xs : List Rat}, (∀ q ∈ xs, Bq k q) → Bq (xs.length * (k + 1) + 1) (sumQ xs)
  | [], _ => by rw [sumQ_nil, List.length_nil, Nat.zero_mul]; exact ⟨by show 0 < 2 ^ (0 + 1); decide, by show 1 < 2 ^ (0 + 1); decide⟩
  | x :: r, h => by
    rw [sumQ_cons]
    have a := bd_add (h x (List.mem_cons_self ..)) (bq_sum fun q hq => h q (List.mem_cons_of_mem _ hq))
    refine a.mono ?_
    rw [List.length_cons, Nat.succ_mul]; omega
theorem bq_take {k m : Nat} {xs : List Rat} (h : ∀ q ∈ xs, Bq k q) (hm : xs.length * (k + 1) + 1 ≤ m) (i : Nat) : Bq m (sumQ (xs.take i)) := by
  refine (bq_sum fun q hq => h q (List.mem_of_mem_take hq)).mono ?_
  have : (xs.take i).length ≤ xs.length := by rw [List.length_take]; omega
  have := Nat.mul_le_mul_right (k + 1) this
  omega
def minQ (a : Rat) (xs : List Rat) : Rat := xs.foldl (fun f p => if p < f then p else f) a
end RB

set_option Elab.async false
set_option linter.all false
set_option maxRecDepth 100000
set_option maxHeartbeats 4000000
namespace RB
theorem ltleQ {a b c : Rat} (h : a < b) (h2 : b ≤ c) : a < c := Rat.not_le.mp fun h3 => Rat.not_le.mpr h (Rat.le_trans h2 h3)
def payQ (k s : Rat) (S x : Nat) : Rat := ((((1 - k) * mkRat (S : Nat) x) * s⁻¹).floor : Rat) * s
def lowQ (k s D : Rat) : Rat := (1 - k) * (D + s)⁻¹
def highQ (k D : Rat) : Rat := if D = 0 then 1 else minQ 1 [(1 - k) * D⁻¹]
structure PoolQ (k s : Rat) : Prop where
  k0 : 0 ≤ k
  k1 : k < 1
  s0 : 0 < s
  s1 : s ≤ 1
  sd : s.den ≤ 100
  kd : k.den ≤ 1000
section
variable {k s D u : Rat} {S x : Nat}
theorem PoolQ.r0 (h : PoolQ k s) : 0 < 1 - k := (Rat.lt_iff_sub_pos _ _).mp h.k1
theorem num_le_den {q : Rat} (h1 : q ≤ 1) : q.num ≤ (q.den : Nat) := by
  have := (Rat.le_iff q 1).mp h1
  rw [Rat.one_num, Rat.one_den] at this
  simpa using this
theorem PoolQ.bk (h : PoolQ k s) : Bq 10 k := by
  have h1 := num_le_den (Rat.le_of_lt h.k1)
  have h2 := Rat.num_nonneg.mpr h.k0
  have h3 := h.kd
  exact ⟨by omega, by omega⟩
theorem PoolQ.bs (h : PoolQ k s) : Bq 7 s := by
  have h1 := num_le_den h.s1
  have h2 := Rat.num_nonneg.mpr (Rat.le_of_lt h.s0)
  have h3 := h.sd
  exact ⟨by omega, by omega⟩
theorem bq_one : Bq 1 1 := ⟨by decide, by decide⟩
theorem bq_zero : Bq 1 0 := ⟨by decide, by decide⟩
theorem PoolQ.br (h : PoolQ k s) : Bq 12 (1 - k) := bd_sub bq_one h.bk
theorem bq_ratio {m : Nat} (hS : S < 2 ^ m) (hx : x < 2 ^ m) (h0 : 0 < x) : Bq m (mkRat (S : Nat) x) := bd_mk (by rw [Int.natAbs_natCast]; exact hS) hx (by omega)
theorem bq_floor {q : Rat} {m : Nat} (h : Bq m q) (h1 : 1 ≤ m) : Bq m ((q.floor : Int) : Rat) := by
  refine bd_int ?_ h1
  rw [Rat.floor_def]
  refine Nat.lt_of_le_of_lt ?_ h.1
  have hd := q.den_pos
  have : (q.num / (q.den : Int)).natAbs ≤ q.num.natAbs := by
    by_cases z : q.num < 0
    · have h2 : q.num ≤ q.num / (q.den : Int) := by
        rw [Int.le_ediv_iff_mul_le (by omega)]
        have := Int.mul_le_mul_of_nonpos_left (a := q.num) (b := q.den) (c := 1) (by omega) (by omega)
        omega
      have h3 : q.num / (q.den : Int) < 0 := Int.ediv_neg_of_neg_of_pos z (by omega)
      omega
    · have h2 := Int.ediv_nonneg (by omega : 0 ≤ q.num) (by omega : (0 : Int) ≤ (q.den : Int))
      have h3 := Int.ediv_le_self (q.den : Int) (by omega : 0 ≤ q.num)
      omega
  exact this
theorem PoolQ.be (h : PoolQ k s) (hS : S < 2 ^ 33) (hx : x < 2 ^ 33) (h0 : 0 < x) : Bq 45 ((1 - k) * mkRat (S : Nat) x) := bd_mul h.br (bq_ratio hS hx h0)
theorem PoolQ.bst (h : PoolQ k s) (hS : S < 2 ^ 33) (hx : x < 2 ^ 33) (h0 : 0 < x) : Bq 52 ((1 - k) * mkRat (S : Nat) x * s⁻¹) := bd_mul (h.be hS hx h0) (bd_inv h.bs (by decide))
theorem PoolQ.bp (h : PoolQ k s) (hS : S < 2 ^ 33) (hx : x < 2 ^ 33) (h0 : 0 < x) : Bq 59 (payQ k s S x) := bd_mul (bq_floor (h.bst hS hx h0) (by decide)) h.bs
theorem ratio_nonneg : 0 ≤ mkRat (S : Nat) x := by
  rw [Rat.mkRat_eq_div, Rat.div_def]
  refine Rat.mul_nonneg (Rat.intCast_nonneg.mpr (by omega)) ?_
  rcases Nat.eq_zero_or_pos x with z | z
  · subst z
    have : ((0 : Nat) : Rat)⁻¹ = 0 := Rat.inv_zero
    rw [this]; exact Rat.le_refl
  · exact Rat.le_of_lt (Rat.inv_pos.mpr (Rat.natCast_pos.mpr z))
theorem PoolQ.p0 (h : PoolQ k s) : 0 ≤ payQ k s S x := by
  unfold payQ
  refine Rat.mul_nonneg (Rat.intCast_nonneg.mpr ?_) (Rat.le_of_lt h.s0)
  refine Rat.le_floor_iff.mpr ?_
  exact Rat.mul_nonneg (Rat.mul_nonneg (Rat.le_of_lt h.r0) ratio_nonneg) (Rat.le_of_lt (Rat.inv_pos.mpr h.s0))
theorem PoolQ.p_le (h : PoolQ k s) : payQ k s S x ≤ (1 - k) * mkRat (S : Nat) x := by
  unfold payQ
  have h1 := Rat.floor_le ((1 - k) * mkRat (S : Nat) x * s⁻¹)
  have h2 := Rat.mul_le_mul_of_nonneg_right h1 (Rat.le_of_lt h.s0)
  rwa [Rat.mul_assoc _ s⁻¹ s, Rat.inv_mul_cancel s (fun e => Rat.lt_irrefl (e ▸ h.s0 : (0 : Rat) < 0)), Rat.mul_one] at h2
theorem PoolQ.p_gt (h : PoolQ k s) : (1 - k) * mkRat (S : Nat) x < payQ k s S x + s := by
  unfold payQ
  have h1 := Rat.lt_floor_add_one ((1 - k) * mkRat (S : Nat) x * s⁻¹)
  have h2 := Rat.mul_lt_mul_of_pos_right h1 h.s0
  rw [Rat.mul_assoc _ s⁻¹ s, Rat.inv_mul_cancel s (fun e => Rat.lt_irrefl (e ▸ h.s0 : (0 : Rat) < 0)), Rat.mul_one, Rat.intCast_add, Rat.add_mul] at h2
  have e : ((1 : Int) : Rat) * s = s := Rat.one_mul s
  rwa [e] at h2
theorem ratio_pos (hS : 0 < S) (hx : 0 < x) : 0 < mkRat (x : Nat) S := by
  rw [Rat.mkRat_eq_div, Rat.div_def]
  exact Rat.mul_pos (Rat.intCast_pos.mpr (by omega)) (Rat.inv_pos.mpr (Rat.natCast_pos.mpr hS))
theorem ratio_inv (hS : 0 < S) (hx : 0 < x) : mkRat (S : Nat) x * mkRat (x : Nat) S = 1 := by
  rw [Rat.mkRat_mul_mkRat]
  have e : ((S : Nat) : Int) * ((x : Nat) : Int) = ((x * S : Nat) : Int) := by rw [Int.natCast_mul, Int.mul_comm]
  rw [e]
  have := Rat.mkRat_mul_left (n := 1) (d := 1) (a := x * S) (by have := Nat.mul_pos hx hS; omega)
  rw [Int.mul_one, Nat.mul_one] at this
  exact this.trans rfl
theorem ne_of_pos {q : Rat} (h : 0 < q) : q ≠ 0 := fun e => Rat.lt_irrefl (e ▸ h : (0 : Rat) < 0)
theorem PoolQ.low_lt (h : PoolQ k s) (hS : 0 < S) (hx : 0 < x) : lowQ k s (payQ k s S x) < mkRat (x : Nat) S := by
  have hu := ratio_pos hS hx
  have h1 := Rat.mul_lt_mul_of_pos_right (h.p_gt (S := S) (x := x)) hu
  rw [Rat.mul_assoc, ratio_inv hS hx, Rat.mul_one] at h1
  have hd : 0 < payQ k s S x + s := by
    have := Rat.add_le_add_right (c := s) |>.mpr (h.p0 (S := S) (x := x))
    rw [Rat.zero_add] at this
    exact ltleQ h.s0 this
  unfold lowQ
  rw [← Rat.div_def, Rat.div_lt_iff hd, Rat.mul_comm]
  exact h1
theorem PoolQ.high_ge (h : PoolQ k s) (hS : 0 < S) (hx : 0 < x) (hxS : x ≤ S) : mkRat (x : Nat) S ≤ highQ k (payQ k s S x) := by
  have hu := ratio_pos hS hx
  have hu1 : mkRat (x : Nat) S ≤ 1 := by
    rw [Rat.le_iff, Rat.one_num, Rat.one_den]
    have := (Rat.le_iff (mkRat (x : Nat) S) 1)
    have e1 : mkRat (x : Nat) S = ((x : Nat) : Int) / ((S : Nat) : Rat) := Rat.mkRat_eq_div _ _
    have e2 : mkRat (x : Nat) S ≤ 1 := by
      rw [e1]
      refine Rat.not_lt.mp fun hlt => ?_
      rw [Rat.lt_div_iff (Rat.natCast_pos.mpr hS), Rat.one_mul] at hlt
      have : ((S : Nat) : Rat) < ((x : Nat) : Rat) := hlt
      have := Rat.natCast_lt_natCast.mp this
      omega
    have := (Rat.le_iff _ _).mp e2
    rwa [Rat.one_num, Rat.one_den] at this
  unfold highQ
  split
  · exact hu1
  · rename_i hD
    show _ ≤ if (1 - k) * (payQ k s S x)⁻¹ < 1 then (1 - k) * (payQ k s S x)⁻¹ else 1
    split
    · have hp : 0 < payQ k s S x := Rat.lt_of_le_of_ne h.p0 (Ne.symm hD)
      have h1 := Rat.mul_le_mul_of_nonneg_right (h.p_le (S := S) (x := x)) (Rat.le_of_lt hu)
      rw [Rat.mul_assoc, ratio_inv hS hx, Rat.mul_one] at h1
      refine Rat.not_lt.mp fun hlt => ?_
      rw [← Rat.div_def, Rat.div_lt_iff hp, Rat.mul_comm] at hlt
      exact Rat.not_le.mpr hlt h1
    · exact hu1
end
section
variable {α : Type}
theorem sumQ_le {f g : α → Rat} : ∀ {l : List α}, (∀ x ∈ l, f x ≤ g x) → sumQ (l.map f) ≤ sumQ (l.map g)
  | [], _ => Rat.le_refl
  | a :: r, h => by
    rw [List.map_cons, List.map_cons, sumQ_cons, sumQ_cons]
    exact Rat.le_trans (Rat.add_le_add_right.mpr (h a (List.mem_cons_self ..))) (Rat.add_le_add_left.mpr (sumQ_le fun x hx => h x (List.mem_cons_of_mem _ hx)))
theorem sumQ_lt {f g : α → Rat} {l : List α} (hl : l ≠ []) (h : ∀ x ∈ l, f x < g x) : sumQ (l.map f) < sumQ (l.map g) := by
  cases l with
  | nil => exact absurd rfl hl
  | cons a r =>
    rw [List.map_cons, List.map_cons, sumQ_cons, sumQ_cons]
    exact ltleQ (Rat.add_lt_add_right.mpr (h a (List.mem_cons_self ..))) (Rat.add_le_add_left.mpr (sumQ_le fun x hx => Rat.le_of_lt (h x (List.mem_cons_of_mem _ hx))))
theorem sum_ratio {S : Nat} (hS : 0 < S) : ∀ l : List Nat, sumQ (l.map fun x => mkRat (x : Nat) S) = mkRat (l.sum : Nat) S
  | [] => by simp [sumQ_nil]
  | a :: r => by
    rw [List.map_cons, sumQ_cons, sum_ratio hS r, List.sum_cons, Rat.mkRat_eq_div, Rat.mkRat_eq_div, Rat.mkRat_eq_div, Rat.div_def, Rat.div_def, Rat.div_def, ← Rat.add_mul, Int.natCast_add, Rat.intCast_add]
theorem ratio_self {S : Nat} (hS : 0 < S) : mkRat (S : Nat) S = 1 := by
  have := Rat.mkRat_mul_left (n := 1) (d := 1) (a := S) (by omega)
  rw [Int.mul_one, Nat.mul_one] at this
  exact this.trans rfl
end
end RB
namespace RB
theorem mk_over {p q : Rat} (h : 0 < q) : mkRat (p.num * (q.den : Nat)) (p.den * q.num.natAbs) = p * q⁻¹ := by
  have h1 : 0 < q.num := by
    rcases Int.lt_trichotomy q.num 0 with z | z | z
    · exact absurd (Rat.num_nonneg.mpr (Rat.le_of_lt h)) (by omega)
    · exact absurd (Rat.num_eq_zero.mp z) (ne_of_pos h)
    · exact z
  rw [Rat.mul_def', Rat.num_inv, Rat.den_inv, if_neg (by omega), Int.sign_eq_one_of_pos h1, Int.one_mul]
theorem num_pos {q : Rat} (h : 0 < q) : 0 < q.num := by
  rcases Int.lt_trichotomy q.num 0 with z | z | z
  · exact absurd (Rat.num_nonneg.mpr (Rat.le_of_lt h)) (by omega)
  · exact absurd (Rat.num_eq_zero.mp z) (ne_of_pos h)
  · exact z
theorem mk_part (q : Rat) (a : Nat) : mkRat q.num (q.den * a) = q * mkRat 1 a := by
  conv => rhs; rw [← Rat.mkRat_self q]
  rw [Rat.mkRat_mul_mkRat, Int.mul_one]
theorem int_times (i : Int) (q : Rat) : mkRat (i * q.num) q.den = (i : Rat) * q := by
  rw [Rat.mul_def', Rat.num_intCast, Rat.den_intCast, Nat.one_mul]
theorem floor_over {p q : Rat} (h : 0 < q) : (p * q⁻¹).floor = p.num * (q.den : Nat) / ((p.den : Nat) * q.num) := by
  rw [← mk_over h, floor_mk (Nat.mul_pos p.den_pos (by have := num_pos h; omega))]
  congr 1
  rw [Int.natCast_mul]
  congr 1
  have := num_pos h
  omega
theorem each_q (r : Rat) (S a : Nat) : r * ((S : Nat) : Rat) * mkRat 1 a = r * mkRat (S : Nat) a := by
  rw [Rat.mul_assoc]
  congr 1
  have : ((S : Nat) : Rat) = mkRat (S : Nat) 1 := (Rat.mkRat_self ((S : Nat) : Rat)).symm
  rw [this, Rat.mkRat_mul_mkRat, Int.mul_one, Nat.one_mul]
end RB

set_option Elab.async false
set_option linter.all false
set_option maxRecDepth 100000
set_option maxHeartbeats 4000000
namespace RB
def wonQ (k s : Rat) (S a o : Nat) : Rat := if a = 0 then 0 else ((o : Nat) : Rat) * payQ k s S a
def gainQ (k s : Rat) (S O a o : Nat) : Rat := wonQ k s S a o - ((O : Nat) : Rat)
section
variable {k s : Rat} {S O a o : Nat}
theorem pay_times (h : PoolQ k s) (ha : 0 < a) : payQ k s S a * ((a : Nat) : Rat) ≤ (1 - k) * ((S : Nat) : Rat) := by
  have h1 := Rat.mul_le_mul_of_nonneg_right (h.p_le (S := S) (x := a)) (c := ((a : Nat) : Rat)) Rat.natCast_nonneg
  have e : mkRat (S : Nat) a * ((a : Nat) : Rat) = ((S : Nat) : Rat) := by
    rw [Rat.mkRat_eq_div]
    exact Rat.div_mul_cancel (fun z => by have := Rat.natCast_eq_zero_iff.mp z; omega)
  rw [Rat.mul_assoc, e] at h1
  exact h1
theorem gain_le (h : PoolQ k s) (ho : o ≤ a) : gainQ k s S O a o * ((a : Nat) : Rat) ≤ (1 - k) * ((S : Nat) : Rat) * ((o : Nat) : Rat) - ((O : Nat) : Rat) * ((a : Nat) : Rat) := by
  unfold gainQ wonQ
  by_cases ha : a = 0
  · subst ha
    have : o = 0 := by omega
    subst this
    rw [if_pos rfl]
    have z : ((0 : Nat) : Rat) = 0 := rfl
    rw [z]
    grind
  · rw [if_neg ha]
    have h1 := pay_times (S := S) h (a := a) (by omega)
    have h2 := Rat.mul_le_mul_of_nonneg_left h1 (c := ((o : Nat) : Rat)) Rat.natCast_nonneg
    grind
theorem sum_lin (A B : Rat) : ∀ zs : List (Nat × Nat), sumQ (zs.map fun z => A * ((z.2 : Nat) : Rat) - B * ((z.1 : Nat) : Rat)) = A * (((zs.map Prod.snd).sum : Nat) : Rat) - B * (((zs.map Prod.fst).sum : Nat) : Rat)
  | [] => by
    show (0 : Rat) = A * ((0 : Nat) : Rat) - B * ((0 : Nat) : Rat)
    have z : ((0 : Nat) : Rat) = 0 := rfl
    rw [z]; grind
  | z :: r => by
    rw [List.map_cons, sumQ_cons, sum_lin A B r, List.map_cons, List.map_cons, List.sum_cons, List.sum_cons, Rat.natCast_add, Rat.natCast_add]
    grind
theorem gains_le (h : PoolQ k s) {zs : List (Nat × Nat)} (hz : ∀ z ∈ zs, z.2 ≤ z.1) (hS : (zs.map Prod.fst).sum = S) (hO : (zs.map Prod.snd).sum = O) : sumQ (zs.map fun z => gainQ k s S O z.1 z.2 * ((z.1 : Nat) : Rat)) ≤ -k * ((S * O : Nat) : Rat) := by
  have h1 := sumQ_le (f := fun z : Nat × Nat => gainQ k s S O z.1 z.2 * ((z.1 : Nat) : Rat)) (g := fun z => (1 - k) * ((S : Nat) : Rat) * ((z.2 : Nat) : Rat) - ((O : Nat) : Rat) * ((z.1 : Nat) : Rat)) (l := zs) fun z hz2 => gain_le h (hz z hz2)
  rw [sum_lin, hS, hO] at h1
  rw [Rat.natCast_mul]
  grind
theorem some_le (h : PoolQ k s) {zs : List (Nat × Nat)} (hz : ∀ z ∈ zs, z.2 ≤ z.1) (hS : (zs.map Prod.fst).sum = S) (hO : (zs.map Prod.snd).sum = O) (hpos : 0 < S) : ∃ z ∈ zs, gainQ k s S O z.1 z.2 ≤ 0 := by
  refine Classical.byContradiction fun hc => ?_
  have all : ∀ z ∈ zs, 0 < gainQ k s S O z.1 z.2 := fun z hz2 => Rat.not_le.mp fun hle => hc ⟨z, hz2, hle⟩
  have h1 := gains_le h hz hS hO
  have h2 : -k * ((S * O : Nat) : Rat) ≤ 0 := by
    have := Rat.mul_nonneg h.k0 (Rat.natCast_nonneg (a := S * O))
    grind
  have pos : ∀ ys : List (Nat × Nat), (∀ z ∈ ys, 0 < gainQ k s S O z.1 z.2) → 0 < (ys.map Prod.fst).sum → 0 < sumQ (ys.map fun z => gainQ k s S O z.1 z.2 * ((z.1 : Nat) : Rat)) := by
    have nn : ∀ ys : List (Nat × Nat), (∀ z ∈ ys, 0 < gainQ k s S O z.1 z.2) → 0 ≤ sumQ (ys.map fun z => gainQ k s S O z.1 z.2 * ((z.1 : Nat) : Rat)) := by
      intro ys
      induction ys with
      | nil => intro _; exact Rat.le_refl
      | cons z r ih =>
        intro hy
        rw [List.map_cons, sumQ_cons]
        exact Rat.add_nonneg (Rat.mul_nonneg (Rat.le_of_lt (hy z (List.mem_cons_self ..))) Rat.natCast_nonneg) (ih fun y hy2 => hy y (List.mem_cons_of_mem _ hy2))
    intro ys
    induction ys with
    | nil => intro _ hs; exact absurd hs (by decide)
    | cons z r ih =>
      intro hy hs
      rw [List.map_cons, sumQ_cons]
      have g0 := hy z (List.mem_cons_self ..)
      have gr := fun y hy2 => hy y (List.mem_cons_of_mem _ hy2)
      by_cases hz0 : z.1 = 0
      · rw [List.map_cons, List.sum_cons, hz0, Nat.zero_add] at hs
        have := ih gr hs
        rw [hz0]
        have z0 : ((0 : Nat) : Rat) = 0 := rfl
        rw [z0, Rat.mul_zero, Rat.zero_add]
        exact this
      · have p1 := Rat.mul_pos g0 (Rat.natCast_pos.mpr (by omega : 0 < z.1))
        have p2 := nn r gr
        grind
  have h3 := pos zs all (by rw [hS]; exact hpos)
  exact Rat.not_le.mpr h3 (Rat.le_trans h1 h2)
theorem PoolQ.bwon (h : PoolQ k s) (hS : S < 2 ^ 33) (ha : a < 2 ^ 33) (ho : o < 2 ^ 33) : Bq 93 (wonQ k s S a o) := by
  unfold wonQ
  split
  · exact bq_zero.mono (by decide)
  · exact (bd_mul (bd_int (a := (o : Nat)) (k := 34) (by rw [Int.natAbs_natCast]; omega) (by decide)) (h.bp hS ha (by omega))).mono (by decide)
theorem PoolQ.bgain (h : PoolQ k s) (hS : S < 2 ^ 33) (ha : a < 2 ^ 33) (ho : o < 2 ^ 33) (hO : O < 2 ^ 33) : Bq 128 (gainQ k s S O a o) := (bd_sub (h.bwon hS ha ho) (bd_int (a := (O : Nat)) (k := 34) (by rw [Int.natAbs_natCast]; omega) (by decide))).mono (by decide)
end
end RB

set_option Elab.async false
set_option linter.all false
set_option maxRecDepth 100000
set_option maxHeartbeats 4000000
namespace RB
/-- a payment of the pool, as a number -/
structure PayN (s D : Rat) : Prop where
  d0 : 0 ≤ D
  m : (D * s⁻¹).den = 1
def loI (k s D : Rat) (m : Nat) : Int := (lowQ k s D * ((m : Nat) : Rat)).floor + 1
def hiI (k D : Rat) (m : Nat) : Int := (highQ k D * ((m : Nat) : Rat)).floor
theorem floor_mkt (a : Int) {b : Nat} (hb : 0 < b) (m : Nat) : (mkRat a b * ((m : Nat) : Rat)).floor = a * (m : Nat) / (b : Nat) := by
  have : ((m : Nat) : Rat) = mkRat (m : Nat) 1 := (Rat.mkRat_self ((m : Nat) : Rat)).symm
  rw [this, Rat.mkRat_mul_mkRat, Nat.mul_one, floor_mk hb]
theorem floor_numden (q : Rat) (m : Nat) : (q * ((m : Nat) : Rat)).floor = q.num * (m : Nat) / (q.den : Nat) := by
  conv => lhs; rw [← Rat.mkRat_self q]
  exact floor_mkt q.num q.den_pos m
theorem min_floor {x : Rat} (m : Nat) : ((if x < 1 then x else 1) * ((m : Nat) : Rat)).floor = min (m : Int) (x * ((m : Nat) : Rat)).floor := by
  have hm : (0 : Rat) ≤ ((m : Nat) : Rat) := Rat.natCast_nonneg
  by_cases h : x < 1
  · rw [if_pos h]
    have h1 : x * ((m : Nat) : Rat) ≤ ((m : Nat) : Rat) := by
      have := Rat.mul_le_mul_of_nonneg_right (Rat.le_of_lt h) hm
      rwa [Rat.one_mul] at this
    have h2 := Rat.floor_monotone h1
    have h3 : (((m : Nat) : Rat)).floor = (m : Int) := Rat.floor_intCast (m : Int)
    rw [h3] at h2
    omega
  · rw [if_neg h, Rat.one_mul]
    have h1 : ((m : Nat) : Rat) ≤ x * ((m : Nat) : Rat) := by
      have := Rat.mul_le_mul_of_nonneg_right (Rat.not_lt.mp h) hm
      rwa [Rat.one_mul] at this
    have h2 := Rat.floor_monotone h1
    have h3 : (((m : Nat) : Rat)).floor = (m : Int) := Rat.floor_intCast (m : Int)
    rw [h3] at h2 ⊢
    omega
theorem hi_zero {k : Rat} (m : Nat) : hiI k 0 m = (m : Int) := by
  unfold hiI highQ
  rw [if_pos rfl, Rat.one_mul]
  exact Rat.floor_intCast (m : Int)
theorem hi_pos {k D : Rat} (h : D ≠ 0) (m : Nat) : hiI k D m = min (m : Int) ((1 - k) * D⁻¹ * ((m : Nat) : Rat)).floor := by
  unfold hiI highQ
  rw [if_neg h]
  exact min_floor m
section
variable {k s D : Rat} {m t : Nat}
theorem bounds_pay (h : PoolQ k s) (hD : PayN s D) (hm : 0 < m) (h1 : loI k s D m ≤ (t : Int)) (h2 : (t : Int) ≤ hiI k D m) : 0 < t ∧ payQ k s m t = D := by
  have hr := h.r0
  have hds : 0 < D + s := by
    have := Rat.add_le_add_right (c := s) |>.mpr hD.d0
    rw [Rat.zero_add] at this
    exact ltleQ h.s0 this
  have low0 : 0 ≤ lowQ k s D * ((m : Nat) : Rat) := Rat.mul_nonneg (Rat.mul_nonneg (Rat.le_of_lt hr) (Rat.le_of_lt (Rat.inv_pos.mpr hds))) Rat.natCast_nonneg
  have f0 : 0 ≤ (lowQ k s D * ((m : Nat) : Rat)).floor := Rat.le_floor_iff.mpr low0
  have ht : 0 < t := by unfold loI at h1; omega
  refine ⟨ht, ?_⟩
  have htR : (0 : Rat) < ((t : Nat) : Rat) := Rat.natCast_pos.mpr ht
  have hmR : (0 : Rat) < ((m : Nat) : Rat) := Rat.natCast_pos.mpr hm
  -- low * m < t
  have lt1 : lowQ k s D * ((m : Nat) : Rat) < ((t : Nat) : Rat) := by
    have a := Rat.lt_floor_add_one (lowQ k s D * ((m : Nat) : Rat))
    unfold loI at h1
    have b : (((lowQ k s D * ((m : Nat) : Rat)).floor + 1 : Int) : Rat) ≤ ((t : Int) : Rat) := Rat.intCast_le_intCast.mpr h1
    exact ltleQ a b
  have le2 : ((t : Nat) : Rat) ≤ highQ k D * ((m : Nat) : Rat) := by
    unfold hiI at h2
    exact Rat.le_floor_iff.mp h2
  have ex : mkRat (m : Nat) t * ((t : Nat) : Rat) = ((m : Nat) : Rat) := by
    rw [Rat.mkRat_eq_div]
    exact Rat.div_mul_cancel (ne_of_pos htR)
  -- upper
  have up : (1 - k) * mkRat (m : Nat) t < D + s := by
    have e1 : (1 - k) * ((m : Nat) : Rat) < (D + s) * ((t : Nat) : Rat) := by
      have a := Rat.mul_lt_mul_of_pos_right lt1 hds
      have e : lowQ k s D * ((m : Nat) : Rat) * (D + s) = (1 - k) * ((m : Nat) : Rat) := by
        unfold lowQ
        have c := Rat.inv_mul_cancel (D + s) (ne_of_pos hds)
        grind
      rw [e, Rat.mul_comm (((t : Nat) : Rat))] at a
      exact a
    refine Rat.not_le.mp fun hle => ?_
    have b := Rat.mul_le_mul_of_nonneg_right hle (Rat.le_of_lt htR)
    rw [Rat.mul_assoc, ex] at b
    exact Rat.not_le.mpr e1 b
  have lo : D ≤ (1 - k) * mkRat (m : Nat) t := by
    by_cases h0 : D = 0
    · rw [h0]
      exact Rat.mul_nonneg (Rat.le_of_lt hr) ratio_nonneg
    · have hDp : 0 < D := Rat.lt_of_le_of_ne hD.d0 (Ne.symm h0)
      have hle : highQ k D ≤ (1 - k) * D⁻¹ := by
        unfold highQ
        rw [if_neg h0]
        show (if (1 - k) * D⁻¹ < 1 then (1 - k) * D⁻¹ else 1) ≤ _
        split
        · exact Rat.le_refl
        · rename_i q; exact Rat.not_lt.mp q
      have a := Rat.le_trans le2 (Rat.mul_le_mul_of_nonneg_right hle (Rat.le_of_lt hmR))
      have b := Rat.mul_le_mul_of_nonneg_right a hD.d0
      have e : (1 - k) * D⁻¹ * ((m : Nat) : Rat) * D = (1 - k) * ((m : Nat) : Rat) := by
        have c := Rat.inv_mul_cancel D h0
        grind
      rw [e] at b
      refine Rat.not_lt.mp fun hlt => ?_
      have d := Rat.mul_lt_mul_of_pos_right hlt htR
      rw [Rat.mul_assoc, ex] at d
      rw [Rat.mul_comm] at b
      exact Rat.not_le.mpr d b
  -- floor
  have sinv : 0 < s⁻¹ := Rat.inv_pos.mpr h.s0
  obtain ⟨d, hd⟩ : ∃ d : Int, D * s⁻¹ = (d : Rat) := ⟨(D * s⁻¹).num, by
    refine Rat.ext rfl ?_
    rw [hD.m]; rfl⟩
  have eD : (d : Rat) * s = D := by rw [← hd, Rat.mul_assoc, Rat.inv_mul_cancel s (ne_of_pos h.s0), Rat.mul_one]
  have fl : ((1 - k) * mkRat (m : Nat) t * s⁻¹).floor = d := by
    have a : d ≤ ((1 - k) * mkRat (m : Nat) t * s⁻¹).floor := by
      refine Rat.le_floor_iff.mpr ?_
      rw [← hd]
      exact Rat.mul_le_mul_of_nonneg_right lo (Rat.le_of_lt sinv)
    have b : ((1 - k) * mkRat (m : Nat) t * s⁻¹).floor < d + 1 := by
      refine Rat.floor_lt_iff.mpr ?_
      have c := Rat.mul_lt_mul_of_pos_right up sinv
      rw [Rat.add_mul, hd, Rat.mul_inv_cancel s (ne_of_pos h.s0)] at c
      rw [Rat.intCast_add]
      exact c
    omega
  unfold payQ
  rw [fl, eD]
end
/-- stakes chosen one by one: the least that leaves no more than the others may take -/
def sumHi (ls : List (Int × Int)) : Int := (ls.map Prod.snd).sum
def sumLo (ls : List (Int × Int)) : Int := (ls.map Prod.fst).sum
def firstI : List (Int × Int) → Int → List Int
  | [], _ => []
  | p :: r, left => (if left - sumHi r > p.1 then left - sumHi r else p.1) :: firstI r (left - (if left - sumHi r > p.1 then left - sumHi r else p.1))
def canB (ls : List (Int × Int)) (m : Int) : Bool := !(ls.any fun p => decide (p.2 < p.1)) && (decide (sumLo ls ≤ m) && decide (m ≤ sumHi ls))
theorem can_ok {ls : List (Int × Int)} {m : Int} (h : canB ls m = true) : (∀ p ∈ ls, p.1 ≤ p.2) ∧ sumLo ls ≤ m ∧ m ≤ sumHi ls := by
  unfold canB at h
  simp only [Bool.and_eq_true, Bool.not_eq_true', decide_eq_true_eq, List.any_eq_false, decide_eq_false_iff_not] at h
  exact ⟨fun p hp => by have := h.1 p hp; omega, h.2.1, h.2.2⟩
theorem lo_le_hi : ∀ {ls : List (Int × Int)}, (∀ p ∈ ls, p.1 ≤ p.2) → sumLo ls ≤ sumHi ls
  | [], _ => Int.le_refl _
  | p :: r, h => by
    have := lo_le_hi fun q hq => h q (List.mem_cons_of_mem _ hq)
    have := h p (List.mem_cons_self ..)
    unfold sumLo sumHi at *
    simp only [List.map_cons, List.sum_cons]; omega
theorem first_len : ∀ (ls : List (Int × Int)) (m : Int), (firstI ls m).length = ls.length
  | [], _ => rfl
  | p :: r, m => by unfold firstI; rw [List.length_cons, List.length_cons, first_len r]
theorem first_ok : ∀ {ls : List (Int × Int)} {m : Int}, (∀ p ∈ ls, p.1 ≤ p.2) → sumLo ls ≤ m → m ≤ sumHi ls → (firstI ls m).sum = m ∧ ∀ (i : Nat) p x, ls[i]? = some p → (firstI ls m)[i]? = some x → p.1 ≤ x ∧ x ≤ p.2
  | [], m, _, h1, h2 => by
    unfold sumLo at h1; unfold sumHi at h2
    simp at h1 h2
    refine ⟨?_, fun i p x hp => by simp at hp⟩
    show (0 : Int) = m
    omega
  | p :: r, m, h, h1, h2 => by
    have hr := fun q hq => h q (List.mem_cons_of_mem p hq)
    have hp := h p (List.mem_cons_self ..)
    have lh := lo_le_hi hr
    have e1 : sumLo (p :: r) = p.1 + sumLo r := by unfold sumLo; simp
    have e2 : sumHi (p :: r) = p.2 + sumHi r := by unfold sumHi; simp
    rw [e1] at h1
    rw [e2] at h2
    unfold firstI
    generalize hx : (if m - sumHi r > p.1 then m - sumHi r else p.1) = x
    have hx1 : p.1 ≤ x ∧ x ≤ p.2 ∧ sumLo r ≤ m - x ∧ m - x ≤ sumHi r := by
      rw [← hx]; split <;> omega
    obtain ⟨a, b⟩ := first_ok hr hx1.2.2.1 hx1.2.2.2
    refine ⟨by rw [List.sum_cons, a]; omega, fun i q y hq hy => ?_⟩
    cases i with
    | zero => cases hq; cases hy; exact ⟨hx1.1, hx1.2.1⟩
    | succ i => exact b i q y (by simpa using hq) (by simpa using hy)
end RB

set_option Elab.async false
set_option linter.all false
set_option maxRecDepth 100000
set_option maxHeartbeats 4000000
namespace LW
open PySem PySem.Spec PyProof.Rows L2 RB
def top (i : Nat) : Stmt := PySem.Challenge.pw_racebooks_k51_rows_that_come_of_stakes.main.body.getD i (.Pass ⟨0, 0, 0, 0⟩)
def ans_int : Tn → Option Bool
  | .non => some false
  | .bl => some true
  | .int => some true
  | .str => some false
  | .tup => some false
  | .lst => some false
  | .cls _ => none
def ans_bool : Tn → Option Bool
  | .non => some false
  | .bl => some true
  | .int => some false
  | .str => some false
  | .tup => some false
  | .lst => some false
  | .cls _ => none
def ans_list_tuple : Tn → Option Bool
  | .non => some false
  | .bl => some false
  | .int => some false
  | .str => some false
  | .tup => some true
  | .lst => some true
  | .cls _ => none
def ans_tuple : Tn → Option Bool
  | .non => some false
  | .bl => some false
  | .int => some false
  | .str => some false
  | .tup => some true
  | .lst => some false
  | .cls _ => none
def ans_str : Tn → Option Bool
  | .non => some false
  | .bl => some false
  | .int => some false
  | .str => some true
  | .tup => some false
  | .lst => some false
  | .cls _ => none
def cat_BadValue (k : Nat) : Option Bool := if k < 2 then some (k == 0) else none
def cat_TooMany (k : Nat) : Option Bool := if k < 2 then some (k == 1) else none
structure TX (K : PySem.W.Frag) (mg : Str → Option Value) (cl ec : Nat → Addr) (fld : Nat → Str) : Prop where
  b_abs : mg "abs" = none
  b_all : mg "all" = none
  b_any : mg "any" = none
  b_bool : mg "bool" = none
  b_int : mg "int" = none
  b_isinstance : mg "isinstance" = none
  b_len : mg "len" = none
  b_list : mg "list" = none
  b_max : mg "max" = none
  b_min : mg "min" = none
  b_range : mg "range" = none
  b_str : mg "str" = none
  b_sum : mg "sum" = none
  b_tuple : mg "tuple" = none
  b_zip : mg "zip" = none
  g_gcd : mg "gcd" = some (.builtin "math.gcd")
  k_ZERO : ∃ c, mg "ZERO" = some (.ref c) ∧ KTup K c [0, 1]
  k_ONE : ∃ c, mg "ONE" = some (.ref c) ∧ KTup K c [1, 1]
  k_MOST_BOTTOM_OF_STEP : ∃ t, mg "MOST_BOTTOM_OF_STEP" = some (.int 100 t)
  k_MOST_RUNNERS : ∃ t, mg "MOST_RUNNERS" = some (.int 4 t)
  k_MOST_STAKE : ∃ t, mg "MOST_STAKE" = some (.int 1000000000 t)
  k_MOST_IN_ALL : ∃ t, mg "MOST_IN_ALL" = some (.int 5000 t)
  e_BadValue : PySem.ErrX.ErrC K (ec 0) (fld 0)
  ef_BadValue : fld 0 = "at"
  em_BadValue : mg "BadValue" = some (.ref (ec 0))
  is_BadValue : ∀ k b, cat_BadValue k = some b → PySem.W.exmOne K (.ref (ec k)) (.ref (ec 0)) = some b
  it_BadValue : ∀ k, cat_BadValue k = some true → fld k = "at" ∧ PySem.ErrX.ErrC K (ec k) "at"
  e_TooMany : PySem.ErrX.ErrC K (ec 1) (fld 1)
  ef_TooMany : fld 1 = "word"
  em_TooMany : mg "TooMany" = some (.ref (ec 1))
  is_TooMany : ∀ k b, cat_TooMany k = some b → PySem.W.exmOne K (.ref (ec k)) (.ref (ec 1)) = some b
  it_TooMany : ∀ k, cat_TooMany k = some true → fld k = "word" ∧ PySem.ErrX.ErrC K (ec k) "word"
  ai_int : AllI ⟨K, cl, ec, fld⟩ ans_int
  an_int : Ans ⟨K, cl, ec, fld⟩ [.int] ans_int
  ai_bool : AllI ⟨K, cl, ec, fld⟩ ans_bool
  an_bool : Ans ⟨K, cl, ec, fld⟩ [.bl] ans_bool
  ai_list_tuple : AllI ⟨K, cl, ec, fld⟩ ans_list_tuple
  an_list_tuple : Ans ⟨K, cl, ec, fld⟩ [.lst, .tup] ans_list_tuple
  ai_tuple : AllI ⟨K, cl, ec, fld⟩ ans_tuple
  an_tuple : Ans ⟨K, cl, ec, fld⟩ [.tup] ans_tuple
  ai_str : AllI ⟨K, cl, ec, fld⟩ ans_str
  an_str : Ans ⟨K, cl, ec, fld⟩ [.str] ans_str
section
variable {P : Program} {w : World} {K : PySem.W.Frag} {mg : Str → Option Value} {base : Heap} {cl ec : Nat → Addr} {fld : Nat → Str}
abbrev s_is_integer : Stmt := top 8
def F_is_integer : List W → Sto → Res W := defn 1 (sRet (eAnd (eIsi ans_int (eLoc 0)) (eNot (eIsi ans_bool (eLoc 0)))))
theorem sc_is_integer : FnScope ["value"] ["value"] (defScope s_is_integer) := ⟨rfl, rfl, rfl, by decide +kernel, rfl, by decide +kernel, by decide +kernel⟩
theorem ok_is_integer {f : Addr} {fd : FuncData} (F : L2.Fun K "is_integer" "is_integer" s_is_integer f fd) (T : TX K mg cl ec fld) : FnOk P w K mg base (L2.CX P w) 1 f fd ["value"] (spF ⟨K, cl, ec, fld⟩ 1 F_is_integer) := by
  refine q_ok F sc_is_integer rfl rfl fun cdv A outer s H E hr => ?_
  have TK := takes_of (X := cxOf (L2.CX P w) P w K mg base ["value"] "is_integer" (defScope s_is_integer) f cdv A outer s H E) rfl rfl rfl rfl
  exact qs_one (qs_ret (qe_and (qe_isi1 (T := .int) T.ai_int rfl (by rfl) T.b_isinstance (qe_loc 0) (pe_bltn (v := .ty "int") (by rfl) T.b_int (by decide +kernel) rfl) (.ty _) T.an_int) (qe_one (qe_not (qe_isi1 (T := .bl) T.ai_bool rfl (by rfl) T.b_isinstance (qe_loc 0) (pe_bltn (v := .ty "bool") (by rfl) T.b_bool (by decide +kernel) rfl) (.ty _) T.an_bool)))))
abbrev s_is_integer_within : Stmt := top 9
def F_is_integer_within : List W → Sto → Res W := defn 3 (sRet (eAnd (eCall (F_is_integer) [] (evCons (eLoc 0) (evNil))) (eChain wLe wLe (eLoc 1) (eLoc 0) (eLoc 2))))
theorem sc_is_integer_within : FnScope ["value", "least", "most"] ["value", "least", "most"] (defScope s_is_integer_within) := ⟨rfl, rfl, rfl, by decide +kernel, rfl, by decide +kernel, by decide +kernel⟩
theorem ok_is_integer_within {f : Addr} {fd : FuncData} (F : L2.Fun K "is_integer_within" "is_integer_within" s_is_integer_within f fd) (T : TX K mg cl ec fld) (G_is_integer : Fn ⟨K, cl, ec, fld⟩ P w mg base 1 "is_integer" 1 [] F_is_integer) : FnOk P w K mg base (L2.CX P w) 2 f fd ["value", "least", "most"] (spF ⟨K, cl, ec, fld⟩ 3 F_is_integer_within) := by
  refine q_ok F sc_is_integer_within rfl rfl fun cdv A outer s H E hr => ?_
  have TK := takes_of (X := cxOf (L2.CX P w) P w K mg base ["value", "least", "most"] "is_integer_within" (defScope s_is_integer_within) f cdv A outer s H E) rfl rfl rfl rfl
  exact qs_one (qs_ret (qe_and (qe_call1 G_is_integer rfl (hr.mono (by first | exact Nat.le_refl _ | omega)) TK (by rfl) (qa_cons (qe_loc 0) (qa_nil)) 1 rfl (evLen_cons evLen_nil)) (qe_one (q_chain c_le c_le (qe_loc 1) (qe_loc 0) (qe_loc 2)))))
abbrev s_is_sequence : Stmt := top 10
def F_is_sequence : List W → Sto → Res W := defn 1 (sRet (eIsi ans_list_tuple (eLoc 0)))
theorem sc_is_sequence : FnScope ["value"] ["value"] (defScope s_is_sequence) := ⟨rfl, rfl, rfl, by decide +kernel, rfl, by decide +kernel, by decide +kernel⟩
theorem ok_is_sequence {f : Addr} {fd : FuncData} (F : L2.Fun K "is_sequence" "is_sequence" s_is_sequence f fd) (T : TX K mg cl ec fld) : FnOk P w K mg base (L2.CX P w) 1 f fd ["value"] (spF ⟨K, cl, ec, fld⟩ 1 F_is_sequence) := by
  refine q_ok F sc_is_sequence rfl rfl fun cdv A outer s H E hr => ?_
  have TK := takes_of (X := cxOf (L2.CX P w) P w K mg base ["value"] "is_sequence" (defScope s_is_sequence) f cdv A outer s H E) rfl rfl rfl rfl
  exact qs_one (qs_ret (qe_isi2 (T1 := .lst) (T2 := .tup) T.ai_list_tuple rfl (by rfl) T.b_isinstance (qe_loc 0) (pe_bltn (v := .ty "list") (by rfl) T.b_list (by decide +kernel) rfl) (.ty _) (pe_bltn (v := .ty "tuple") (by rfl) T.b_tuple (by decide +kernel) rfl) (.ty _) T.an_list_tuple))
abbrev s_is_fraction : Stmt := top 11
def F_is_fraction : List W → Sto → Res W := defn 3 (sSeq (sIf (bOr (bNot (bTru (eCall (F_is_sequence) [] (evCons (eLoc 0) (evNil))))) (bVal (eBin wNe (eB fLen (evCons (eLoc 0) (evNil))) (eLit (.int 2))))) (sRet (eLit (.bl false))) (sNil)) (sSeq (sSet (tgTup 2 (tgCons (tgName 1) (tgCons (tgName 2) (tgNil)))) (eLoc 0)) (sSeq (sIf (bOr (bNot (bTru (eCall (F_is_integer) [] (evCons (eLoc 1) (evNil))))) (bNot (bTru (eCall (F_is_integer) [] (evCons (eLoc 2) (evNil)))))) (sRet (eLit (.bl false))) (sNil)) (sRet (eAnd (eBin wGt (eLoc 2) (eLit (.int 0))) (eBin wEq (eB fGcd (evCons (eLoc 1) (evCons (eLoc 2) (evNil)))) (eLit (.int 1))))))))
theorem sc_is_fraction : FnScope ["value", "top", "bottom"] ["value"] (defScope s_is_fraction) := ⟨rfl, rfl, rfl, by decide +kernel, rfl, by decide +kernel, by decide +kernel⟩
theorem ok_is_fraction {f : Addr} {fd : FuncData} (F : L2.Fun K "is_fraction" "is_fraction" s_is_fraction f fd) (T : TX K mg cl ec fld) (G_is_sequence : Fn ⟨K, cl, ec, fld⟩ P w mg base 1 "is_sequence" 1 [] F_is_sequence) (G_is_integer : Fn ⟨K, cl, ec, fld⟩ P w mg base 1 "is_integer" 1 [] F_is_integer) : FnOk P w K mg base (L2.CX P w) 2 f fd ["value"] (spF ⟨K, cl, ec, fld⟩ 1 F_is_fraction) := by
  refine q_ok F sc_is_fraction rfl rfl fun cdv A outer s H E hr => ?_
  have TK := takes_of (X := cxOf (L2.CX P w) P w K mg base ["value", "top", "bottom"] "is_fraction" (defScope s_is_fraction) f cdv A outer s H E) rfl rfl rfl rfl
  exact qs_cons (qs_if (qw_pt (qw_or (qt_not (qt_tru rfl (qe_call1 G_is_sequence rfl (hr.mono (by first | exact Nat.le_refl _ | omega)) TK (by rfl) (qa_cons (qe_loc 0) (qa_nil)) 1 rfl (evLen_cons evLen_nil)))) (qw_or1 (t_cmp (c_ne rfl hr) (qe_blt call_len (ok_len rfl) (by rfl) T.b_len (by decide +kernel) (qa_cons (qe_loc 0) (qa_nil))) (qe_int))))) (qs_one (qs_ret (qe_bl))) (qs_nil)) (qs_cons (qs_set (qe_loc 0) (qg_tup (n := 2) rfl rfl (qg_cons (qg_name (i := 1) (sc_is_fraction).nd rfl (by first | exact Or.inl rfl | exact Or.inr rfl)) (qg_cons (qg_name (i := 2) (sc_is_fraction).nd rfl (by first | exact Or.inl rfl | exact Or.inr rfl)) (qg_nil))))) (qs_cons (qs_if (qw_pt (qw_or (qt_not (qt_tru rfl (qe_call1 G_is_integer rfl (hr.mono (by first | exact Nat.le_refl _ | omega)) TK (by rfl) (qa_cons (qe_loc 1) (qa_nil)) 1 rfl (evLen_cons evLen_nil)))) (qw_or1 (qt_not (qt_tru rfl (qe_call1 G_is_integer rfl (hr.mono (by first | exact Nat.le_refl _ | omega)) TK (by rfl) (qa_cons (qe_loc 2) (qa_nil)) 1 rfl (evLen_cons evLen_nil))))))) (qs_one (qs_ret (qe_bl))) (qs_nil)) (qs_one (qs_ret (qe_and (q_cmp c_gt (qe_loc 2) (qe_int)) (qe_one (q_cmp (c_eq rfl hr) (qe_bfun cr_gcd ok_gcd (by rfl) T.g_gcd (qa_cons (qe_loc 1) (qa_cons (qe_loc 2) (qa_nil)))) (qe_int))))))))
abbrev s_is_amount : Stmt := top 12
def F_is_amount : List W → Sto → Res W := defn 1 (sRet (eAnd (eCall (F_is_fraction) [] (evCons (eLoc 0) (evNil))) (eBin wGe (eBin wIx (eLoc 0) (eLit (.int 0))) (eLit (.int 0)))))
theorem sc_is_amount : FnScope ["value"] ["value"] (defScope s_is_amount) := ⟨rfl, rfl, rfl, by decide +kernel, rfl, by decide +kernel, by decide +kernel⟩
theorem ok_is_amount {f : Addr} {fd : FuncData} (F : L2.Fun K "is_amount" "is_amount" s_is_amount f fd) (T : TX K mg cl ec fld) (G_is_fraction : Fn ⟨K, cl, ec, fld⟩ P w mg base 2 "is_fraction" 1 [] F_is_fraction) : FnOk P w K mg base (L2.CX P w) 3 f fd ["value"] (spF ⟨K, cl, ec, fld⟩ 1 F_is_amount) := by
  refine q_ok F sc_is_amount rfl rfl fun cdv A outer s H E hr => ?_
  have TK := takes_of (X := cxOf (L2.CX P w) P w K mg base ["value"] "is_amount" (defScope s_is_amount) f cdv A outer s H E) rfl rfl rfl rfl
  exact qs_one (qs_ret (qe_and (qe_call1 G_is_fraction rfl (hr.mono (by first | exact Nat.le_refl _ | omega)) TK (by rfl) (qa_cons (qe_loc 0) (qa_nil)) 1 rfl (evLen_cons evLen_nil)) (qe_one (q_cmp c_ge (qe_ix rfl (qe_loc 0) (qe_int)) (qe_int)))))
abbrev s_fraction : Stmt := top 13
def F_fraction : List W → Sto → Res W := defn 3 (sSeq (sSet (tgName 2) (eB fGcd (evCons (eLoc 0) (evCons (eLoc 1) (evNil))))) (sRet (eTup (evCons (eBin wDiv (eLoc 0) (eLoc 2)) (evCons (eBin wDiv (eLoc 1) (eLoc 2)) (evNil))))))
theorem sc_fraction : FnScope ["top", "bottom", "common"] ["top", "bottom"] (defScope s_fraction) := ⟨rfl, rfl, rfl, by decide +kernel, rfl, by decide +kernel, by decide +kernel⟩
theorem ok_fraction {f : Addr} {fd : FuncData} (F : L2.Fun K "fraction" "fraction" s_fraction f fd) (T : TX K mg cl ec fld) : FnOk P w K mg base (L2.CX P w) 1 f fd ["top", "bottom"] (spF ⟨K, cl, ec, fld⟩ 2 F_fraction) := by
  refine q_ok F sc_fraction rfl rfl fun cdv A outer s H E hr => ?_
  have TK := takes_of (X := cxOf (L2.CX P w) P w K mg base ["top", "bottom", "common"] "fraction" (defScope s_fraction) f cdv A outer s H E) rfl rfl rfl rfl
  exact qs_cons (qs_set (qe_bfun cr_gcd ok_gcd (by rfl) T.g_gcd (qa_cons (qe_loc 0) (qa_cons (qe_loc 1) (qa_nil)))) (qg_name (i := 2) (sc_fraction).nd rfl (by first | exact Or.inl rfl | exact Or.inr rfl))) (qs_one (qs_ret (qe_tup (qa_cons (q_div (qe_loc 0) (qe_loc 2)) (qa_cons (q_div (qe_loc 1) (qe_loc 2)) (qa_nil))))))
abbrev s_plus : Stmt := top 14
def F_plus : List W → Sto → Res W := defn 2 (sRet (eCall (F_fraction) [] (evCons (eBin wAdd (eBin wMul (eBin wIx (eLoc 0) (eLit (.int 0))) (eBin wIx (eLoc 1) (eLit (.int 1)))) (eBin wMul (eBin wIx (eLoc 1) (eLit (.int 0))) (eBin wIx (eLoc 0) (eLit (.int 1))))) (evCons (eBin wMul (eBin wIx (eLoc 0) (eLit (.int 1))) (eBin wIx (eLoc 1) (eLit (.int 1)))) (evNil)))))
theorem sc_plus : FnScope ["left", "right"] ["left", "right"] (defScope s_plus) := ⟨rfl, rfl, rfl, by decide +kernel, rfl, by decide +kernel, by decide +kernel⟩
theorem ok_plus {f : Addr} {fd : FuncData} (F : L2.Fun K "plus" "plus" s_plus f fd) (T : TX K mg cl ec fld) (G_fraction : Fn ⟨K, cl, ec, fld⟩ P w mg base 1 "fraction" 2 [] F_fraction) : FnOk P w K mg base (L2.CX P w) 2 f fd ["left", "right"] (spF ⟨K, cl, ec, fld⟩ 2 F_plus) := by
  refine q_ok F sc_plus rfl rfl fun cdv A outer s H E hr => ?_
  have TK := takes_of (X := cxOf (L2.CX P w) P w K mg base ["left", "right"] "plus" (defScope s_plus) f cdv A outer s H E) rfl rfl rfl rfl
  exact qs_one (qs_ret (qe_call1 G_fraction rfl (hr.mono (by first | exact Nat.le_refl _ | omega)) TK (by rfl) (qa_cons (q_add rfl (q_mul rfl (qe_ix rfl (qe_loc 0) (qe_int)) (qe_ix rfl (qe_loc 1) (qe_int))) (q_mul rfl (qe_ix rfl (qe_loc 1) (qe_int)) (qe_ix rfl (qe_loc 0) (qe_int)))) (qa_cons (q_mul rfl (qe_ix rfl (qe_loc 0) (qe_int)) (qe_ix rfl (qe_loc 1) (qe_int))) (qa_nil))) 2 rfl (evLen_cons (evLen_cons evLen_nil))))
abbrev s_minus : Stmt := top 15
def F_minus : List W → Sto → Res W := defn 2 (sRet (eCall (F_fraction) [] (evCons (eBin wSub (eBin wMul (eBin wIx (eLoc 0) (eLit (.int 0))) (eBin wIx (eLoc 1) (eLit (.int 1)))) (eBin wMul (eBin wIx (eLoc 1) (eLit (.int 0))) (eBin wIx (eLoc 0) (eLit (.int 1))))) (evCons (eBin wMul (eBin wIx (eLoc 0) (eLit (.int 1))) (eBin wIx (eLoc 1) (eLit (.int 1)))) (evNil)))))
theorem sc_minus : FnScope ["left", "right"] ["left", "right"] (defScope s_minus) := ⟨rfl, rfl, rfl, by decide +kernel, rfl, by decide +kernel, by decide +kernel⟩
theorem ok_minus {f : Addr} {fd : FuncData} (F : L2.Fun K "minus" "minus" s_minus f fd) (T : TX K mg cl ec fld) (G_fraction : Fn ⟨K, cl, ec, fld⟩ P w mg base 1 "fraction" 2 [] F_fraction) : FnOk P w K mg base (L2.CX P w) 2 f fd ["left", "right"] (spF ⟨K, cl, ec, fld⟩ 2 F_minus) := by
  refine q_ok F sc_minus rfl rfl fun cdv A outer s H E hr => ?_
  have TK := takes_of (X := cxOf (L2.CX P w) P w K mg base ["left", "right"] "minus" (defScope s_minus) f cdv A outer s H E) rfl rfl rfl rfl
  exact qs_one (qs_ret (qe_call1 G_fraction rfl (hr.mono (by first | exact Nat.le_refl _ | omega)) TK (by rfl) (qa_cons (q_sub (q_mul rfl (qe_ix rfl (qe_loc 0) (qe_int)) (qe_ix rfl (qe_loc 1) (qe_int))) (q_mul rfl (qe_ix rfl (qe_loc 1) (qe_int)) (qe_ix rfl (qe_loc 0) (qe_int)))) (qa_cons (q_mul rfl (qe_ix rfl (qe_loc 0) (qe_int)) (qe_ix rfl (qe_loc 1) (qe_int))) (qa_nil))) 2 rfl (evLen_cons (evLen_cons evLen_nil))))
abbrev s_times : Stmt := top 16
def F_times : List W → Sto → Res W := defn 2 (sRet (eCall (F_fraction) [] (evCons (eBin wMul (eBin wIx (eLoc 0) (eLit (.int 0))) (eBin wIx (eLoc 1) (eLit (.int 0)))) (evCons (eBin wMul (eBin wIx (eLoc 0) (eLit (.int 1))) (eBin wIx (eLoc 1) (eLit (.int 1)))) (evNil)))))
theorem sc_times : FnScope ["left", "right"] ["left", "right"] (defScope s_times) := ⟨rfl, rfl, rfl, by decide +kernel, rfl, by decide +kernel, by decide +kernel⟩
theorem ok_times {f : Addr} {fd : FuncData} (F : L2.Fun K "times" "times" s_times f fd) (T : TX K mg cl ec fld) (G_fraction : Fn ⟨K, cl, ec, fld⟩ P w mg base 1 "fraction" 2 [] F_fraction) : FnOk P w K mg base (L2.CX P w) 2 f fd ["left", "right"] (spF ⟨K, cl, ec, fld⟩ 2 F_times) := by
  refine q_ok F sc_times rfl rfl fun cdv A outer s H E hr => ?_
  have TK := takes_of (X := cxOf (L2.CX P w) P w K mg base ["left", "right"] "times" (defScope s_times) f cdv A outer s H E) rfl rfl rfl rfl
  exact qs_one (qs_ret (qe_call1 G_fraction rfl (hr.mono (by first | exact Nat.le_refl _ | omega)) TK (by rfl) (qa_cons (q_mul rfl (qe_ix rfl (qe_loc 0) (qe_int)) (qe_ix rfl (qe_loc 1) (qe_int))) (qa_cons (q_mul rfl (qe_ix rfl (qe_loc 0) (qe_int)) (qe_ix rfl (qe_loc 1) (qe_int))) (qa_nil))) 2 rfl (evLen_cons (evLen_cons evLen_nil))))
abbrev s_one_over : Stmt := top 17
def F_one_over : List W → Sto → Res W := defn 1 (sRet (eTup (evCons (eBin wIx (eLoc 0) (eLit (.int 1))) (evCons (eBin wIx (eLoc 0) (eLit (.int 0))) (evNil)))))
theorem sc_one_over : FnScope ["number"] ["number"] (defScope s_one_over) := ⟨rfl, rfl, rfl, by decide +kernel, rfl, by decide +kernel, by decide +kernel⟩
theorem ok_one_over {f : Addr} {fd : FuncData} (F : L2.Fun K "one_over" "one_over" s_one_over f fd) (T : TX K mg cl ec fld) : FnOk P w K mg base (L2.CX P w) 1 f fd ["number"] (spF ⟨K, cl, ec, fld⟩ 1 F_one_over) := by
  refine q_ok F sc_one_over rfl rfl fun cdv A outer s H E hr => ?_
  have TK := takes_of (X := cxOf (L2.CX P w) P w K mg base ["number"] "one_over" (defScope s_one_over) f cdv A outer s H E) rfl rfl rfl rfl
  exact qs_one (qs_ret (qe_tup (qa_cons (qe_ix rfl (qe_loc 0) (qe_int)) (qa_cons (qe_ix rfl (qe_loc 0) (qe_int)) (qa_nil)))))
abbrev s_is_below : Stmt := top 18
def F_is_below : List W → Sto → Res W := defn 2 (sRet (eBin wLt (eBin wMul (eBin wIx (eLoc 0) (eLit (.int 0))) (eBin wIx (eLoc 1) (eLit (.int 1)))) (eBin wMul (eBin wIx (eLoc 1) (eLit (.int 0))) (eBin wIx (eLoc 0) (eLit (.int 1))))))
theorem sc_is_below : FnScope ["left", "right"] ["left", "right"] (defScope s_is_below) := ⟨rfl, rfl, rfl, by decide +kernel, rfl, by decide +kernel, by decide +kernel⟩
theorem ok_is_below {f : Addr} {fd : FuncData} (F : L2.Fun K "is_below" "is_below" s_is_below f fd) (T : TX K mg cl ec fld) : FnOk P w K mg base (L2.CX P w) 1 f fd ["left", "right"] (spF ⟨K, cl, ec, fld⟩ 2 F_is_below) := by
  refine q_ok F sc_is_below rfl rfl fun cdv A outer s H E hr => ?_
  have TK := takes_of (X := cxOf (L2.CX P w) P w K mg base ["left", "right"] "is_below" (defScope s_is_below) f cdv A outer s H E) rfl rfl rfl rfl
  exact qs_one (qs_ret (q_cmp c_lt (q_mul rfl (qe_ix rfl (qe_loc 0) (qe_int)) (qe_ix rfl (qe_loc 1) (qe_int))) (q_mul rfl (qe_ix rfl (qe_loc 1) (qe_int)) (qe_ix rfl (qe_loc 0) (qe_int)))))
abbrev s_least_of : Stmt := top 19
def F_least_of : List W → Sto → Res W := defn 3 (sSeq (sSet (tgName 1) (eBin wIx (eLoc 0) (eLit (.int 0)))) (sSeq (sFor 1000000 (vSeq (eLoc 0)) (tgName 2) (sIf (bTru (eCall (F_is_below) [] (evCons (eLoc 2) (evCons (eLoc 1) (evNil))))) (sSet (tgName 1) (eLoc 2)) (sNil))) (sRet (eLoc 1))))
theorem sc_least_of : FnScope ["fractions", "found", "part"] ["fractions"] (defScope s_least_of) := ⟨rfl, rfl, rfl, by decide +kernel, rfl, by decide +kernel, by decide +kernel⟩
theorem ok_least_of {f : Addr} {fd : FuncData} (F : L2.Fun K "least_of" "least_of" s_least_of f fd) (T : TX K mg cl ec fld) (G_is_below : Fn ⟨K, cl, ec, fld⟩ P w mg base 1 "is_below" 2 [] F_is_below) : FnOk P w K mg base (L2.CX P w) 2 f fd ["fractions"] (spF ⟨K, cl, ec, fld⟩ 1 F_least_of) := by
  refine q_ok F sc_least_of rfl rfl fun cdv A outer s H E hr => ?_
  have TK := takes_of (X := cxOf (L2.CX P w) P w K mg base ["fractions", "found", "part"] "least_of" (defScope s_least_of) f cdv A outer s H E) rfl rfl rfl rfl
  exact qs_cons (qs_set (qe_ix rfl (qe_loc 0) (qe_int)) (qg_name (i := 1) (sc_least_of).nd rfl (by first | exact Or.inl rfl | exact Or.inr rfl))) (qs_cons (qs_for (n := 1000000) (passes_of (K := _) rfl) rfl (qi_seq rfl (qe_loc 0)) (qg_name (i := 2) (sc_least_of).nd rfl (by first | exact Or.inl rfl | exact Or.inr rfl)) (qs_one (qs_if (qt_tru rfl (qe_call1 G_is_below rfl (hr.mono (by first | exact Nat.le_refl _ | omega)) TK (by rfl) (qa_cons (qe_loc 2) (qa_cons (qe_loc 1) (qa_nil))) 2 rfl (evLen_cons (evLen_cons evLen_nil)))) (qs_one (qs_set (qe_loc 2) (qg_name (i := 1) (sc_least_of).nd rfl (by first | exact Or.inl rfl | exact Or.inr rfl)))) (qs_nil)))) (qs_one (qs_ret (qe_loc 1))))
abbrev s_total : Stmt := top 20
def F_total : List W → Sto → Res W := defn 3 (sSeq (sSet (tgName 1) (eLit (.tup [.int 0, .int 1]))) (sSeq (sFor 1000000 (vSeq (eLoc 0)) (tgName 2) (sSet (tgName 1) (eCall (F_plus) [] (evCons (eLoc 1) (evCons (eLoc 2) (evNil)))))) (sRet (eLoc 1))))
theorem sc_total : FnScope ["fractions", "reached", "part"] ["fractions"] (defScope s_total) := ⟨rfl, rfl, rfl, by decide +kernel, rfl, by decide +kernel, by decide +kernel⟩
theorem ok_total {f : Addr} {fd : FuncData} (F : L2.Fun K "total" "total" s_total f fd) (T : TX K mg cl ec fld) (G_plus : Fn ⟨K, cl, ec, fld⟩ P w mg base 2 "plus" 2 [] F_plus) : FnOk P w K mg base (L2.CX P w) 3 f fd ["fractions"] (spF ⟨K, cl, ec, fld⟩ 1 F_total) := by
  refine q_ok F sc_total rfl rfl fun cdv A outer s H E hr => ?_
  have TK := takes_of (X := cxOf (L2.CX P w) P w K mg base ["fractions", "reached", "part"] "total" (defScope s_total) f cdv A outer s H E) rfl rfl rfl rfl
  exact qs_cons (qs_set (q_gtup (ns := [0, 1]) rfl (by rfl) T.k_ZERO) (qg_name (i := 1) (sc_total).nd rfl (by first | exact Or.inl rfl | exact Or.inr rfl))) (qs_cons (qs_for (n := 1000000) (passes_of (K := _) rfl) rfl (qi_seq rfl (qe_loc 0)) (qg_name (i := 2) (sc_total).nd rfl (by first | exact Or.inl rfl | exact Or.inr rfl)) (qs_one (qs_set (qe_call1 G_plus rfl (hr.mono (by first | exact Nat.le_refl _ | omega)) TK (by rfl) (qa_cons (qe_loc 1) (qa_cons (qe_loc 2) (qa_nil))) 2 rfl (evLen_cons (evLen_cons evLen_nil))) (qg_name (i := 1) (sc_total).nd rfl (by first | exact Or.inl rfl | exact Or.inr rfl))))) (qs_one (qs_ret (qe_loc 1))))
abbrev s__is_kept : Stmt := top 32
def F__is_kept : List W → Sto → Res W := defn 1 (sRet (eAnd (eCall (F_is_amount) [] (evCons (eLoc 0) (evNil))) (eCall (F_is_below) [] (evCons (eLoc 0) (evCons (eLit (.tup [.int 1, .int 1])) (evNil))))))
theorem sc__is_kept : FnScope ["value"] ["value"] (defScope s__is_kept) := ⟨rfl, rfl, rfl, by decide +kernel, rfl, by decide +kernel, by decide +kernel⟩
theorem ok__is_kept {f : Addr} {fd : FuncData} (F : L2.Fun K "_is_kept" "_is_kept" s__is_kept f fd) (T : TX K mg cl ec fld) (G_is_amount : Fn ⟨K, cl, ec, fld⟩ P w mg base 3 "is_amount" 1 [] F_is_amount) (G_is_below : Fn ⟨K, cl, ec, fld⟩ P w mg base 1 "is_below" 2 [] F_is_below) : FnOk P w K mg base (L2.CX P w) 4 f fd ["value"] (spF ⟨K, cl, ec, fld⟩ 1 F__is_kept) := by
  refine q_ok F sc__is_kept rfl rfl fun cdv A outer s H E hr => ?_
  have TK := takes_of (X := cxOf (L2.CX P w) P w K mg base ["value"] "_is_kept" (defScope s__is_kept) f cdv A outer s H E) rfl rfl rfl rfl
  exact qs_one (qs_ret (qe_and (qe_call1 G_is_amount rfl (hr.mono (by first | exact Nat.le_refl _ | omega)) TK (by rfl) (qa_cons (qe_loc 0) (qa_nil)) 1 rfl (evLen_cons evLen_nil)) (qe_one (qe_call1 G_is_below rfl (hr.mono (by first | exact Nat.le_refl _ | omega)) TK (by rfl) (qa_cons (qe_loc 0) (qa_cons (q_gtup (ns := [1, 1]) rfl (by rfl) T.k_ONE) (qa_nil))) 2 rfl (evLen_cons (evLen_cons evLen_nil))))))
abbrev s__is_step : Stmt := top 33
def F__is_step : List W → Sto → Res W := defn 1 (sSeq (sIf (bOr (bNot (bTru (eCall (F_is_amount) [] (evCons (eLoc 0) (evNil))))) (bVal (eBin wEq (eBin wIx (eLoc 0) (eLit (.int 0))) (eLit (.int 0))))) (sRet (eLit (.bl false))) (sNil)) (sRet (eAnd (eNot (eCall (F_is_below) [] (evCons (eLit (.tup [.int 1, .int 1])) (evCons (eLoc 0) (evNil))))) (eBin wLe (eBin wIx (eLoc 0) (eLit (.int 1))) (eLit (.int 100))))))
theorem sc__is_step : FnScope ["value"] ["value"] (defScope s__is_step) := ⟨rfl, rfl, rfl, by decide +kernel, rfl, by decide +kernel, by decide +kernel⟩
theorem ok__is_step {f : Addr} {fd : FuncData} (F : L2.Fun K "_is_step" "_is_step" s__is_step f fd) (T : TX K mg cl ec fld) (G_is_amount : Fn ⟨K, cl, ec, fld⟩ P w mg base 3 "is_amount" 1 [] F_is_amount) (G_is_below : Fn ⟨K, cl, ec, fld⟩ P w mg base 1 "is_below" 2 [] F_is_below) : FnOk P w K mg base (L2.CX P w) 4 f fd ["value"] (spF ⟨K, cl, ec, fld⟩ 1 F__is_step) := by
  refine q_ok F sc__is_step rfl rfl fun cdv A outer s H E hr => ?_
  have TK := takes_of (X := cxOf (L2.CX P w) P w K mg base ["value"] "_is_step" (defScope s__is_step) f cdv A outer s H E) rfl rfl rfl rfl
  exact qs_cons (qs_if (qw_pt (qw_or (qt_not (qt_tru rfl (qe_call1 G_is_amount rfl (hr.mono (by first | exact Nat.le_refl _ | omega)) TK (by rfl) (qa_cons (qe_loc 0) (qa_nil)) 1 rfl (evLen_cons evLen_nil)))) (qw_or1 (t_cmp (c_eq rfl hr) (qe_ix rfl (qe_loc 0) (qe_int)) (qe_int))))) (qs_one (qs_ret (qe_bl))) (qs_nil)) (qs_one (qs_ret (qe_and (qe_not (qe_call1 G_is_below rfl (hr.mono (by first | exact Nat.le_refl _ | omega)) TK (by rfl) (qa_cons (q_gtup (ns := [1, 1]) rfl (by rfl) T.k_ONE) (qa_cons (qe_loc 0) (qa_nil))) 2 rfl (evLen_cons (evLen_cons evLen_nil)))) (qe_one (q_cmp c_le (qe_ix rfl (qe_loc 0) (qe_int)) (q_gint (by rfl) T.k_MOST_BOTTOM_OF_STEP))))))
abbrev s__need_pool : Stmt := top 31
def F__need_pool : List W → Sto → Res W := defn 4 (sSeq (sIf (bOr (bNot (bTru (eCall (F_is_sequence) [] (evCons (eLoc 0) (evNil))))) (bVal (eBin wNe (eB fLen (evCons (eLoc 0) (evNil))) (eLit (.int 3))))) (sRaise 0 (evCons (eLit (.int 1)) (evNil))) (sNil)) (sSeq (sSet (tgTup 3 (tgCons (tgName 1) (tgCons (tgName 2) (tgCons (tgName 3) (tgNil))))) (eLoc 0)) (sIf (bOr (bNot (bTru (eCall (F__is_kept) [] (evCons (eLoc 1) (evNil))))) (bOr (bNot (bTru (eCall (F__is_step) [] (evCons (eLoc 2) (evNil))))) (bNot (bTru (eCall (F_is_integer_within) [] (evCons (eLoc 3) (evCons (eLit (.int 1)) (evCons (eLit (.int 4)) (evNil))))))))) (sRaise 0 (evCons (eLit (.int 1)) (evNil))) (sNil))))
theorem sc__need_pool : FnScope ["pool", "kept", "step", "runners"] ["pool"] (defScope s__need_pool) := ⟨rfl, rfl, rfl, by decide +kernel, rfl, by decide +kernel, by decide +kernel⟩
theorem ok__need_pool {f : Addr} {fd : FuncData} (F : L2.Fun K "_need_pool" "_need_pool" s__need_pool f fd) (T : TX K mg cl ec fld) (G_is_sequence : Fn ⟨K, cl, ec, fld⟩ P w mg base 1 "is_sequence" 1 [] F_is_sequence) (G__is_kept : Fn ⟨K, cl, ec, fld⟩ P w mg base 4 "_is_kept" 1 [] F__is_kept) (G__is_step : Fn ⟨K, cl, ec, fld⟩ P w mg base 4 "_is_step" 1 [] F__is_step) (G_is_integer_within : Fn ⟨K, cl, ec, fld⟩ P w mg base 2 "is_integer_within" 3 [] F_is_integer_within) : FnOk P w K mg base (L2.CX P w) 5 f fd ["pool"] (spF ⟨K, cl, ec, fld⟩ 1 F__need_pool) := by
  refine q_ok F sc__need_pool rfl rfl fun cdv A outer s H E hr => ?_
  have TK := takes_of (X := cxOf (L2.CX P w) P w K mg base ["pool", "kept", "step", "runners"] "_need_pool" (defScope s__need_pool) f cdv A outer s H E) rfl rfl rfl rfl
  exact qs_cons (qs_if (qw_pt (qw_or (qt_not (qt_tru rfl (qe_call1 G_is_sequence rfl (hr.mono (by first | exact Nat.le_refl _ | omega)) TK (by rfl) (qa_cons (qe_loc 0) (qa_nil)) 1 rfl (evLen_cons evLen_nil)))) (qw_or1 (t_cmp (c_ne rfl hr) (qe_blt call_len (ok_len rfl) (by rfl) T.b_len (by decide +kernel) (qa_cons (qe_loc 0) (qa_nil))) (qe_int))))) (qs_one (qs_raise (c := 0) rfl (by rfl) T.e_BadValue T.em_BadValue hr TK rfl (qa_cons (qe_int) (qa_nil)))) (qs_nil)) (qs_cons (qs_set (qe_loc 0) (qg_tup (n := 3) rfl rfl (qg_cons (qg_name (i := 1) (sc__need_pool).nd rfl (by first | exact Or.inl rfl | exact Or.inr rfl)) (qg_cons (qg_name (i := 2) (sc__need_pool).nd rfl (by first | exact Or.inl rfl | exact Or.inr rfl)) (qg_cons (qg_name (i := 3) (sc__need_pool).nd rfl (by first | exact Or.inl rfl | exact Or.inr rfl)) (qg_nil)))))) (qs_one (qs_if (qw_pt (qw_or (qt_not (qt_tru rfl (qe_call1 G__is_kept rfl (hr.mono (by first | exact Nat.le_refl _ | omega)) TK (by rfl) (qa_cons (qe_loc 1) (qa_nil)) 1 rfl (evLen_cons evLen_nil)))) (qw_or (qt_not (qt_tru rfl (qe_call1 G__is_step rfl (hr.mono (by first | exact Nat.le_refl _ | omega)) TK (by rfl) (qa_cons (qe_loc 2) (qa_nil)) 1 rfl (evLen_cons evLen_nil)))) (qw_or1 (qt_not (qt_tru rfl (qe_call1 G_is_integer_within rfl (hr.mono (by first | exact Nat.le_refl _ | omega)) TK (by rfl) (qa_cons (qe_loc 3) (qa_cons (qe_int) (qa_cons (q_gint (by rfl) T.k_MOST_RUNNERS) (qa_nil)))) 3 rfl (evLen_cons (evLen_cons (evLen_cons evLen_nil)))))))))) (qs_one (qs_raise (c := 0) rfl (by rfl) T.e_BadValue T.em_BadValue hr TK rfl (qa_cons (qe_int) (qa_nil)))) (qs_nil))))
abbrev s__need_stakes : Stmt := top 34
def F__need_stakes : List W → Sto → Res W := defn 3 (sSeq (sIf (bOr (bNot (bTru (eCall (F_is_sequence) [] (evCons (eLoc 1) (evNil))))) (bVal (eBin wNe (eB fLen (evCons (eLoc 1) (evNil))) (eBin wIx (eLoc 0) (eLit (.int 2)))))) (sRaise 0 (evCons (eLit (.int 2)) (evNil))) (sNil)) (sIf (bOr (bNot (bTru (eB fAll (evCons (eComp 1000000 [2] (vSeq (eLoc 1)) (tgName 2) (bYes) (eCall (F_is_integer_within) [] (evCons (eLoc 2) (evCons (eLit (.int 0)) (evCons (eLit (.int 1000000000)) (evNil)))))) (evNil))))) (bVal (eBin wEq (eB fSumS (evCons (eLoc 1) (evNil))) (eLit (.int 0))))) (sRaise 0 (evCons (eLit (.int 2)) (evNil))) (sNil)))
theorem sc__need_stakes : FnScope ["pool", "stakes", "stake"] ["pool", "stakes"] (defScope s__need_stakes) := ⟨rfl, rfl, rfl, by decide +kernel, rfl, by decide +kernel, by decide +kernel⟩
theorem ok__need_stakes {f : Addr} {fd : FuncData} (F : L2.Fun K "_need_stakes" "_need_stakes" s__need_stakes f fd) (T : TX K mg cl ec fld) (G_is_sequence : Fn ⟨K, cl, ec, fld⟩ P w mg base 1 "is_sequence" 1 [] F_is_sequence) (G_is_integer_within : Fn ⟨K, cl, ec, fld⟩ P w mg base 2 "is_integer_within" 3 [] F_is_integer_within) : FnOk P w K mg base (L2.CX P w) 3 f fd ["pool", "stakes"] (spF ⟨K, cl, ec, fld⟩ 2 F__need_stakes) := by
  refine q_ok F sc__need_stakes rfl rfl fun cdv A outer s H E hr => ?_
  have TK := takes_of (X := cxOf (L2.CX P w) P w K mg base ["pool", "stakes", "stake"] "_need_stakes" (defScope s__need_stakes) f cdv A outer s H E) rfl rfl rfl rfl
  exact qs_cons (qs_if (qw_pt (qw_or (qt_not (qt_tru rfl (qe_call1 G_is_sequence rfl (hr.mono (by first | exact Nat.le_refl _ | omega)) TK (by rfl) (qa_cons (qe_loc 1) (qa_nil)) 1 rfl (evLen_cons evLen_nil)))) (qw_or1 (t_cmp (c_ne rfl hr) (qe_blt call_len (ok_len rfl) (by rfl) T.b_len (by decide +kernel) (qa_cons (qe_loc 1) (qa_nil))) (qe_ix rfl (qe_loc 0) (qe_int)))))) (qs_one (qs_raise (c := 0) rfl (by rfl) T.e_BadValue T.em_BadValue hr TK rfl (qa_cons (qe_int) (qa_nil)))) (qs_nil)) (qs_one (qs_if (qw_pt (qw_or (qt_not (qt_tru rfl (qe_blt (cr_all rfl) (ok_all rfl) (by rfl) T.b_all (by decide +kernel) (qa_cons (qe_comp (own := [("stake", 2)]) (n := 1000000) rfl (sc__need_stakes).nd (qi_seq rfl (qe_loc 1)) (by change BlkOk ["pool", "stakes", "stake"] (defScope s__need_stakes) _ _; exact blkOk_by (by decide +kernel)) (fun _ _ _ _ _ => pg_name (i := 2) (sc__need_stakes).nd rfl (by first | exact Or.inl rfl | exact Or.inr rfl)) (ct_name (by decide)) (fun _ _ _ _ _ => qc_nil) (fun _ _ _ _ _ => qe_call1 G_is_integer_within rfl (hr.mono (by first | exact Nat.le_refl _ | omega)) (takesX (CX := L2.CX P w)) (by rfl) (qa_cons (qe_loc 2) (qa_cons (qe_int) (qa_cons (q_gint (by rfl) T.k_MOST_STAKE) (qa_nil)))) 3 rfl (evLen_cons (evLen_cons (evLen_cons evLen_nil))))) (qa_nil))))) (qw_or1 (t_cmp (c_eq rfl hr) (qe_blt (cr_sumT rfl) (ok_sumS rfl) (by rfl) T.b_sum (by decide +kernel) (qa_cons (qe_loc 1) (qa_nil))) (qe_int))))) (qs_one (qs_raise (c := 0) rfl (by rfl) T.e_BadValue T.em_BadValue hr TK rfl (qa_cons (qe_int) (qa_nil)))) (qs_nil)))
abbrev s__returned : Stmt := top 38
def F__returned : List W → Sto → Res W := defn 1 (sRet (eCall (F_minus) [] (evCons (eLit (.tup [.int 1, .int 1])) (evCons (eBin wIx (eLoc 0) (eLit (.int 0))) (evNil)))))
theorem sc__returned : FnScope ["pool"] ["pool"] (defScope s__returned) := ⟨rfl, rfl, rfl, by decide +kernel, rfl, by decide +kernel, by decide +kernel⟩
theorem ok__returned {f : Addr} {fd : FuncData} (F : L2.Fun K "_returned" "_returned" s__returned f fd) (T : TX K mg cl ec fld) (G_minus : Fn ⟨K, cl, ec, fld⟩ P w mg base 2 "minus" 2 [] F_minus) : FnOk P w K mg base (L2.CX P w) 3 f fd ["pool"] (spF ⟨K, cl, ec, fld⟩ 1 F__returned) := by
  refine q_ok F sc__returned rfl rfl fun cdv A outer s H E hr => ?_
  have TK := takes_of (X := cxOf (L2.CX P w) P w K mg base ["pool"] "_returned" (defScope s__returned) f cdv A outer s H E) rfl rfl rfl rfl
  exact qs_one (qs_ret (qe_call1 G_minus rfl (hr.mono (by first | exact Nat.le_refl _ | omega)) TK (by rfl) (qa_cons (q_gtup (ns := [1, 1]) rfl (by rfl) T.k_ONE) (qa_cons (qe_ix rfl (qe_loc 0) (qe_int)) (qa_nil))) 2 rfl (evLen_cons (evLen_cons evLen_nil))))
abbrev s__payment : Stmt := top 39
def F__payment : List W → Sto → Res W := defn 6 (sSeq (sIf (bVal (eBin wEq (eLoc 2) (eLit (.int 0)))) (sRet (eLit .non)) (sNil)) (sSeq (sSet (tgName 3) (eBin wIx (eLoc 0) (eLit (.int 1)))) (sSeq (sSet (tgName 4) (eCall (F_times) [] (evCons (eCall (F__returned) [] (evCons (eLoc 0) (evNil))) (evCons (eCall (F_fraction) [] (evCons (eLoc 1) (evCons (eLoc 2) (evNil)))) (evNil))))) (sSeq (sSet (tgName 5) (eCall (F_times) [] (evCons (eLoc 4) (evCons (eCall (F_one_over) [] (evCons (eLoc 3) (evNil))) (evNil))))) (sRet (eCall (F_times) [] (evCons (eTup (evCons (eBin wDiv (eBin wIx (eLoc 5) (eLit (.int 0))) (eBin wIx (eLoc 5) (eLit (.int 1)))) (evCons (eLit (.int 1)) (evNil)))) (evCons (eLoc 3) (evNil)))))))))
theorem sc__payment : FnScope ["pool", "many", "stake", "step", "exact", "steps"] ["pool", "many", "stake"] (defScope s__payment) := ⟨rfl, rfl, rfl, by decide +kernel, rfl, by decide +kernel, by decide +kernel⟩
theorem ok__payment {f : Addr} {fd : FuncData} (F : L2.Fun K "_payment" "_payment" s__payment f fd) (T : TX K mg cl ec fld) (G_times : Fn ⟨K, cl, ec, fld⟩ P w mg base 2 "times" 2 [] F_times) (G__returned : Fn ⟨K, cl, ec, fld⟩ P w mg base 3 "_returned" 1 [] F__returned) (G_fraction : Fn ⟨K, cl, ec, fld⟩ P w mg base 1 "fraction" 2 [] F_fraction) (G_one_over : Fn ⟨K, cl, ec, fld⟩ P w mg base 1 "one_over" 1 [] F_one_over) : FnOk P w K mg base (L2.CX P w) 4 f fd ["pool", "many", "stake"] (spF ⟨K, cl, ec, fld⟩ 3 F__payment) := by
  refine q_ok F sc__payment rfl rfl fun cdv A outer s H E hr => ?_
  have TK := takes_of (X := cxOf (L2.CX P w) P w K mg base ["pool", "many", "stake", "step", "exact", "steps"] "_payment" (defScope s__payment) f cdv A outer s H E) rfl rfl rfl rfl
  exact qs_cons (qs_if (t_cmp (c_eq rfl hr) (qe_loc 2) (qe_int)) (qs_one (qs_ret (qe_non))) (qs_nil)) (qs_cons (qs_set (qe_ix rfl (qe_loc 0) (qe_int)) (qg_name (i := 3) (sc__payment).nd rfl (by first | exact Or.inl rfl | exact Or.inr rfl))) (qs_cons (qs_set (qe_call1 G_times rfl (hr.mono (by first | exact Nat.le_refl _ | omega)) TK (by rfl) (qa_cons (qe_call1 G__returned rfl (hr.mono (by first | exact Nat.le_refl _ | omega)) TK (by rfl) (qa_cons (qe_loc 0) (qa_nil)) 1 rfl (evLen_cons evLen_nil)) (qa_cons (qe_call1 G_fraction rfl (hr.mono (by first | exact Nat.le_refl _ | omega)) TK (by rfl) (qa_cons (qe_loc 1) (qa_cons (qe_loc 2) (qa_nil))) 2 rfl (evLen_cons (evLen_cons evLen_nil))) (qa_nil))) 2 rfl (evLen_cons (evLen_cons evLen_nil))) (qg_name (i := 4) (sc__payment).nd rfl (by first | exact Or.inl rfl | exact Or.inr rfl))) (qs_cons (qs_set (qe_call1 G_times rfl (hr.mono (by first | exact Nat.le_refl _ | omega)) TK (by rfl) (qa_cons (qe_loc 4) (qa_cons (qe_call1 G_one_over rfl (hr.mono (by first | exact Nat.le_refl _ | omega)) TK (by rfl) (qa_cons (qe_loc 3) (qa_nil)) 1 rfl (evLen_cons evLen_nil)) (qa_nil))) 2 rfl (evLen_cons (evLen_cons evLen_nil))) (qg_name (i := 5) (sc__payment).nd rfl (by first | exact Or.inl rfl | exact Or.inr rfl))) (qs_one (qs_ret (qe_call1 G_times rfl (hr.mono (by first | exact Nat.le_refl _ | omega)) TK (by rfl) (qa_cons (qe_tup (qa_cons (q_div (qe_ix rfl (qe_loc 5) (qe_int)) (qe_ix rfl (qe_loc 5) (qe_int))) (qa_cons (qe_int) (qa_nil)))) (qa_cons (qe_loc 3) (qa_nil))) 2 rfl (evLen_cons (evLen_cons evLen_nil))))))))
abbrev s_payments : Stmt := top 26
def F_payments : List W → Sto → Res W := defn 3 (sSeq (sDrop (eCall (F__need_pool) [] (evCons (eLoc 0) (evNil)))) (sSeq (sDrop (eCall (F__need_stakes) [] (evCons (eLoc 0) (evCons (eLoc 1) (evNil))))) (sRet (eB fTuple (evCons (eComp 1000000 [2] (vSeq (eLoc 1)) (tgName 2) (bYes) (eCall (F__payment) [] (evCons (eLoc 0) (evCons (eB fSumS (evCons (eLoc 1) (evNil))) (evCons (eLoc 2) (evNil)))))) (evNil))))))
theorem sc_payments : FnScope ["pool", "stakes", "stake"] ["pool", "stakes"] (defScope s_payments) := ⟨rfl, rfl, rfl, by decide +kernel, rfl, by decide +kernel, by decide +kernel⟩
theorem ok_payments {f : Addr} {fd : FuncData} (F : L2.Fun K "payments" "payments" s_payments f fd) (T : TX K mg cl ec fld) (G__need_pool : Fn ⟨K, cl, ec, fld⟩ P w mg base 5 "_need_pool" 1 [] F__need_pool) (G__need_stakes : Fn ⟨K, cl, ec, fld⟩ P w mg base 3 "_need_stakes" 2 [] F__need_stakes) (G__payment : Fn ⟨K, cl, ec, fld⟩ P w mg base 4 "_payment" 3 [] F__payment) : FnOk P w K mg base (L2.CX P w) 6 f fd ["pool", "stakes"] (spF ⟨K, cl, ec, fld⟩ 2 F_payments) := by
  refine q_ok F sc_payments rfl rfl fun cdv A outer s H E hr => ?_
  have TK := takes_of (X := cxOf (L2.CX P w) P w K mg base ["pool", "stakes", "stake"] "payments" (defScope s_payments) f cdv A outer s H E) rfl rfl rfl rfl
  exact qs_cons (qs_drop (qe_call1 G__need_pool rfl (hr.mono (by first | exact Nat.le_refl _ | omega)) TK (by rfl) (qa_cons (qe_loc 0) (qa_nil)) 1 rfl (evLen_cons evLen_nil))) (qs_cons (qs_drop (qe_call1 G__need_stakes rfl (hr.mono (by first | exact Nat.le_refl _ | omega)) TK (by rfl) (qa_cons (qe_loc 0) (qa_cons (qe_loc 1) (qa_nil))) 2 rfl (evLen_cons (evLen_cons evLen_nil)))) (qs_one (qs_ret (qe_typ call_tuple_of (ok_tuple rfl) (by rfl) T.b_tuple (by decide +kernel) (qa_cons (qe_comp (own := [("stake", 2)]) (n := 1000000) rfl (sc_payments).nd (qi_seq rfl (qe_loc 1)) (by change BlkOk ["pool", "stakes", "stake"] (defScope s_payments) _ _; exact blkOk_by (by decide +kernel)) (fun _ _ _ _ _ => pg_name (i := 2) (sc_payments).nd rfl (by first | exact Or.inl rfl | exact Or.inr rfl)) (ct_name (by decide)) (fun _ _ _ _ _ => qc_nil) (fun _ _ _ _ _ => qe_call1 G__payment rfl (hr.mono (by first | exact Nat.le_refl _ | omega)) (takesX (CX := L2.CX P w)) (by rfl) (qa_cons (qe_loc 0) (qa_cons (qe_blt (cr_sumT rfl) (ok_sumS rfl) (by rfl) T.b_sum (by decide +kernel) (qa_cons (qe_loc 1) (qa_nil))) (qa_cons (qe_loc 2) (qa_nil)))) 3 rfl (evLen_cons (evLen_cons (evLen_cons evLen_nil))))) (qa_nil))))))
abbrev s__is_payment : Stmt := top 37
def F__is_payment : List W → Sto → Res W := defn 2 (sRet (eAnd (eCall (F_is_amount) [] (evCons (eLoc 1) (evNil))) (eBin wEq (eBin wIx (eCall (F_times) [] (evCons (eLoc 1) (evCons (eCall (F_one_over) [] (evCons (eBin wIx (eLoc 0) (eLit (.int 1))) (evNil))) (evNil)))) (eLit (.int 1))) (eLit (.int 1)))))
theorem sc__is_payment : FnScope ["pool", "value"] ["pool", "value"] (defScope s__is_payment) := ⟨rfl, rfl, rfl, by decide +kernel, rfl, by decide +kernel, by decide +kernel⟩
theorem ok__is_payment {f : Addr} {fd : FuncData} (F : L2.Fun K "_is_payment" "_is_payment" s__is_payment f fd) (T : TX K mg cl ec fld) (G_is_amount : Fn ⟨K, cl, ec, fld⟩ P w mg base 3 "is_amount" 1 [] F_is_amount) (G_times : Fn ⟨K, cl, ec, fld⟩ P w mg base 2 "times" 2 [] F_times) (G_one_over : Fn ⟨K, cl, ec, fld⟩ P w mg base 1 "one_over" 1 [] F_one_over) : FnOk P w K mg base (L2.CX P w) 4 f fd ["pool", "value"] (spF ⟨K, cl, ec, fld⟩ 2 F__is_payment) := by
  refine q_ok F sc__is_payment rfl rfl fun cdv A outer s H E hr => ?_
  have TK := takes_of (X := cxOf (L2.CX P w) P w K mg base ["pool", "value"] "_is_payment" (defScope s__is_payment) f cdv A outer s H E) rfl rfl rfl rfl
  exact qs_one (qs_ret (qe_and (qe_call1 G_is_amount rfl (hr.mono (by first | exact Nat.le_refl _ | omega)) TK (by rfl) (qa_cons (qe_loc 1) (qa_nil)) 1 rfl (evLen_cons evLen_nil)) (qe_one (q_cmp (c_eq rfl hr) (qe_ix rfl (qe_call1 G_times rfl (hr.mono (by first | exact Nat.le_refl _ | omega)) TK (by rfl) (qa_cons (qe_loc 1) (qa_cons (qe_call1 G_one_over rfl (hr.mono (by first | exact Nat.le_refl _ | omega)) TK (by rfl) (qa_cons (qe_ix rfl (qe_loc 0) (qe_int)) (qa_nil)) 1 rfl (evLen_cons evLen_nil)) (qa_nil))) 2 rfl (evLen_cons (evLen_cons evLen_nil))) (qe_int)) (qe_int)))))
abbrev s__need_row : Stmt := top 36
def F__need_row : List W → Sto → Res W := defn 4 (sSeq (sIf (bOr (bNot (bTru (eCall (F_is_sequence) [] (evCons (eLoc 1) (evNil))))) (bVal (eBin wNe (eB fLen (evCons (eLoc 1) (evNil))) (eBin wIx (eLoc 0) (eLit (.int 2)))))) (sRaise 0 (evCons (eLit (.int 2)) (evNil))) (sNil)) (sSeq (sSet (tgName 2) (eComp 1000000 [3] (vSeq (eLoc 1)) (tgName 3) (bVal (eBin wNotN (eLoc 3) (eLit .non))) (eLoc 3))) (sIf (bOr (bVal (eBin wEq (eB fLen (evCons (eLoc 2) (evNil))) (eLit (.int 0)))) (bNot (bTru (eB fAll (evCons (eComp 1000000 [3] (vSeq (eLoc 2)) (tgName 3) (bYes) (eCall (F__is_payment) [] (evCons (eLoc 0) (evCons (eLoc 3) (evNil))))) (evNil)))))) (sRaise 0 (evCons (eLit (.int 2)) (evNil))) (sNil))))
theorem sc__need_row : FnScope ["pool", "row", "told", "paid"] ["pool", "row"] (defScope s__need_row) := ⟨rfl, rfl, rfl, by decide +kernel, rfl, by decide +kernel, by decide +kernel⟩
theorem ok__need_row {f : Addr} {fd : FuncData} (F : L2.Fun K "_need_row" "_need_row" s__need_row f fd) (T : TX K mg cl ec fld) (G_is_sequence : Fn ⟨K, cl, ec, fld⟩ P w mg base 1 "is_sequence" 1 [] F_is_sequence) (G__is_payment : Fn ⟨K, cl, ec, fld⟩ P w mg base 4 "_is_payment" 2 [] F__is_payment) : FnOk P w K mg base (L2.CX P w) 5 f fd ["pool", "row"] (spF ⟨K, cl, ec, fld⟩ 2 F__need_row) := by
  refine q_ok F sc__need_row rfl rfl fun cdv A outer s H E hr => ?_
  have TK := takes_of (X := cxOf (L2.CX P w) P w K mg base ["pool", "row", "told", "paid"] "_need_row" (defScope s__need_row) f cdv A outer s H E) rfl rfl rfl rfl
  exact qs_cons (qs_if (qw_pt (qw_or (qt_not (qt_tru rfl (qe_call1 G_is_sequence rfl (hr.mono (by first | exact Nat.le_refl _ | omega)) TK (by rfl) (qa_cons (qe_loc 1) (qa_nil)) 1 rfl (evLen_cons evLen_nil)))) (qw_or1 (t_cmp (c_ne rfl hr) (qe_blt call_len (ok_len rfl) (by rfl) T.b_len (by decide +kernel) (qa_cons (qe_loc 1) (qa_nil))) (qe_ix rfl (qe_loc 0) (qe_int)))))) (qs_one (qs_raise (c := 0) rfl (by rfl) T.e_BadValue T.em_BadValue hr TK rfl (qa_cons (qe_int) (qa_nil)))) (qs_nil)) (qs_cons (qs_comp (own := [("paid", 3)]) (n := 1000000) (i := 2) rfl (sc__need_row).nd rfl rfl rfl (qi_seq rfl (qe_loc 1)) (by change BlkOk ["pool", "row", "told", "paid"] (defScope s__need_row) _ _; exact blkOk_by (by decide +kernel)) (fun _ _ _ _ _ => pg_name (i := 3) (sc__need_row).nd rfl (by first | exact Or.inl rfl | exact Or.inr rfl)) (ct_name (by decide)) (fun _ _ _ _ _ => qc_one (t_cmp c_isNot (qe_loc 3) (qe_non))) (fun _ _ _ _ _ => qe_loc 3)) (qs_one (qs_if (qw_pt (qw_or (t_cmp (c_eq rfl hr) (qe_blt call_len (ok_len rfl) (by rfl) T.b_len (by decide +kernel) (qa_cons (qe_loc 2) (qa_nil))) (qe_int)) (qw_or1 (qt_not (qt_tru rfl (qe_blt (cr_all rfl) (ok_all rfl) (by rfl) T.b_all (by decide +kernel) (qa_cons (qe_comp (own := [("paid", 3)]) (n := 1000000) rfl (sc__need_row).nd (qi_seq rfl (qe_loc 2)) (by change BlkOk ["pool", "row", "told", "paid"] (defScope s__need_row) _ _; exact blkOk_by (by decide +kernel)) (fun _ _ _ _ _ => pg_name (i := 3) (sc__need_row).nd rfl (by first | exact Or.inl rfl | exact Or.inr rfl)) (ct_name (by decide)) (fun _ _ _ _ _ => qc_nil) (fun _ _ _ _ _ => qe_call1 G__is_payment rfl (hr.mono (by first | exact Nat.le_refl _ | omega)) (takesX (CX := L2.CX P w)) (by rfl) (qa_cons (qe_loc 0) (qa_cons (qe_loc 3) (qa_nil))) 2 rfl (evLen_cons (evLen_cons evLen_nil)))) (qa_nil)))))))) (qs_one (qs_raise (c := 0) rfl (by rfl) T.e_BadValue T.em_BadValue hr TK rfl (qa_cons (qe_int) (qa_nil)))) (qs_nil))))
abbrev s__bound : Stmt := top 42
def F__bound : List W → Sto → Res W := defn 3 (sSeq (sSet (tgName 2) (eCall (F_times) [] (evCons (eCall (F__returned) [] (evCons (eLoc 0) (evNil))) (evCons (eCall (F_one_over) [] (evCons (eCall (F_plus) [] (evCons (eLoc 1) (evCons (eBin wIx (eLoc 0) (eLit (.int 1))) (evNil)))) (evNil))) (evNil))))) (sSeq (sIf (bVal (eBin wEq (eBin wIx (eLoc 1) (eLit (.int 0))) (eLit (.int 0)))) (sRet (eTup (evCons (eLoc 2) (evCons (eLit (.tup [.int 1, .int 1])) (evNil))))) (sNil)) (sRet (eTup (evCons (eLoc 2) (evCons (eCall (F_least_of) [] (evCons (eLst (evCons (eLit (.tup [.int 1, .int 1])) (evCons (eCall (F_times) [] (evCons (eCall (F__returned) [] (evCons (eLoc 0) (evNil))) (evCons (eCall (F_one_over) [] (evCons (eLoc 1) (evNil))) (evNil)))) (evNil)))) (evNil))) (evNil)))))))
theorem sc__bound : FnScope ["pool", "paid", "low"] ["pool", "paid"] (defScope s__bound) := ⟨rfl, rfl, rfl, by decide +kernel, rfl, by decide +kernel, by decide +kernel⟩
theorem ok__bound {f : Addr} {fd : FuncData} (F : L2.Fun K "_bound" "_bound" s__bound f fd) (T : TX K mg cl ec fld) (G_times : Fn ⟨K, cl, ec, fld⟩ P w mg base 2 "times" 2 [] F_times) (G__returned : Fn ⟨K, cl, ec, fld⟩ P w mg base 3 "_returned" 1 [] F__returned) (G_one_over : Fn ⟨K, cl, ec, fld⟩ P w mg base 1 "one_over" 1 [] F_one_over) (G_least_of : Fn ⟨K, cl, ec, fld⟩ P w mg base 2 "least_of" 1 [] F_least_of) (G_plus : Fn ⟨K, cl, ec, fld⟩ P w mg base 2 "plus" 2 [] F_plus) : FnOk P w K mg base (L2.CX P w) 4 f fd ["pool", "paid"] (spF ⟨K, cl, ec, fld⟩ 2 F__bound) := by
  refine q_ok F sc__bound rfl rfl fun cdv A outer s H E hr => ?_
  have TK := takes_of (X := cxOf (L2.CX P w) P w K mg base ["pool", "paid", "low"] "_bound" (defScope s__bound) f cdv A outer s H E) rfl rfl rfl rfl
  exact qs_cons (qs_set (qe_call1 G_times rfl (hr.mono (by first | exact Nat.le_refl _ | omega)) TK (by rfl) (qa_cons (qe_call1 G__returned rfl (hr.mono (by first | exact Nat.le_refl _ | omega)) TK (by rfl) (qa_cons (qe_loc 0) (qa_nil)) 1 rfl (evLen_cons evLen_nil)) (qa_cons (qe_call1 G_one_over rfl (hr.mono (by first | exact Nat.le_refl _ | omega)) TK (by rfl) (qa_cons (qe_call1 G_plus rfl (hr.mono (by first | exact Nat.le_refl _ | omega)) TK (by rfl) (qa_cons (qe_loc 1) (qa_cons (qe_ix rfl (qe_loc 0) (qe_int)) (qa_nil))) 2 rfl (evLen_cons (evLen_cons evLen_nil))) (qa_nil)) 1 rfl (evLen_cons evLen_nil)) (qa_nil))) 2 rfl (evLen_cons (evLen_cons evLen_nil))) (qg_name (i := 2) (sc__bound).nd rfl (by first | exact Or.inl rfl | exact Or.inr rfl))) (qs_cons (qs_if (t_cmp (c_eq rfl hr) (qe_ix rfl (qe_loc 1) (qe_int)) (qe_int)) (qs_one (qs_ret (qe_tup (qa_cons (qe_loc 2) (qa_cons (q_gtup (ns := [1, 1]) rfl (by rfl) T.k_ONE) (qa_nil)))))) (qs_nil)) (qs_one (qs_ret (qe_tup (qa_cons (qe_loc 2) (qa_cons (qe_call1 G_least_of rfl (hr.mono (by first | exact Nat.le_refl _ | omega)) TK (by rfl) (qa_cons (qe_lst (qa_cons (q_gtup (ns := [1, 1]) rfl (by rfl) T.k_ONE) (qa_cons (qe_call1 G_times rfl (hr.mono (by first | exact Nat.le_refl _ | omega)) TK (by rfl) (qa_cons (qe_call1 G__returned rfl (hr.mono (by first | exact Nat.le_refl _ | omega)) TK (by rfl) (qa_cons (qe_loc 0) (qa_nil)) 1 rfl (evLen_cons evLen_nil)) (qa_cons (qe_call1 G_one_over rfl (hr.mono (by first | exact Nat.le_refl _ | omega)) TK (by rfl) (qa_cons (qe_loc 1) (qa_nil)) 1 rfl (evLen_cons evLen_nil)) (qa_nil))) 2 rfl (evLen_cons (evLen_cons evLen_nil))) (qa_nil)))) (qa_nil)) 1 rfl (evLen_cons evLen_nil)) (qa_nil)))))))
abbrev s__bounds : Stmt := top 41
def F__bounds : List W → Sto → Res W := defn 3 (sRet (eComp 1000000 [2] (vSeq (eLoc 1)) (tgName 2) (bYes) (eIf (bVal (eBin wIsN (eLoc 2) (eLit .non))) (eLit .non) (eCall (F__bound) [] (evCons (eLoc 0) (evCons (eLoc 2) (evNil)))))))
theorem sc__bounds : FnScope ["pool", "row", "paid"] ["pool", "row"] (defScope s__bounds) := ⟨rfl, rfl, rfl, by decide +kernel, rfl, by decide +kernel, by decide +kernel⟩
theorem ok__bounds {f : Addr} {fd : FuncData} (F : L2.Fun K "_bounds" "_bounds" s__bounds f fd) (T : TX K mg cl ec fld) (G__bound : Fn ⟨K, cl, ec, fld⟩ P w mg base 4 "_bound" 2 [] F__bound) : FnOk P w K mg base (L2.CX P w) 5 f fd ["pool", "row"] (spF ⟨K, cl, ec, fld⟩ 2 F__bounds) := by
  refine q_ok F sc__bounds rfl rfl fun cdv A outer s H E hr => ?_
  have TK := takes_of (X := cxOf (L2.CX P w) P w K mg base ["pool", "row", "paid"] "_bounds" (defScope s__bounds) f cdv A outer s H E) rfl rfl rfl rfl
  exact qs_one (qs_ret (qe_comp (own := [("paid", 2)]) (n := 1000000) rfl (sc__bounds).nd (qi_seq rfl (qe_loc 1)) (by change BlkOk ["pool", "row", "paid"] (defScope s__bounds) _ _; exact blkOk_by (by decide +kernel)) (fun _ _ _ _ _ => pg_name (i := 2) (sc__bounds).nd rfl (by first | exact Or.inl rfl | exact Or.inr rfl)) (ct_name (by decide)) (fun _ _ _ _ _ => qc_nil) (fun _ _ _ _ _ => qe_if (t_cmp c_is (qe_loc 2) (qe_non)) (qe_non) (qe_call1 G__bound rfl (hr.mono (by first | exact Nat.le_refl _ | omega)) (takesX (CX := L2.CX P w)) (by rfl) (qa_cons (qe_loc 0) (qa_cons (qe_loc 2) (qa_nil))) 2 rfl (evLen_cons (evLen_cons evLen_nil))))))
abbrev s_spread : Stmt := top 29
def F_spread : List W → Sto → Res W := defn 7 (sSeq (sDrop (eCall (F__need_pool) [] (evCons (eLoc 0) (evNil)))) (sSeq (sDrop (eCall (F__need_row) [] (evCons (eLoc 0) (evCons (eLoc 1) (evNil))))) (sSeq (sSet (tgName 2) (eComp 1000000 [3] (vSeq (eCall (F__bounds) [] (evCons (eLoc 0) (evCons (eLoc 1) (evNil))))) (tgName 3) (bVal (eBin wNotN (eLoc 3) (eLit .non))) (eLoc 3))) (sRet (eTup (evCons (eCall (F_total) [] (evCons (eComp 1000000 [4, 5] (vSeq (eLoc 2)) (tgPair 4 5) (bYes) (eLoc 4)) (evNil))) (evCons (eCall (F_total) [] (evCons (eComp 1000000 [5, 6] (vSeq (eLoc 2)) (tgPair 5 6) (bYes) (eLoc 6)) (evNil))) (evNil))))))))
theorem sc_spread : FnScope ["pool", "row", "bounds", "bound", "low", "_", "high"] ["pool", "row"] (defScope s_spread) := ⟨rfl, rfl, rfl, by decide +kernel, rfl, by decide +kernel, by decide +kernel⟩
theorem ok_spread {f : Addr} {fd : FuncData} (F : L2.Fun K "spread" "spread" s_spread f fd) (T : TX K mg cl ec fld) (G__need_pool : Fn ⟨K, cl, ec, fld⟩ P w mg base 5 "_need_pool" 1 [] F__need_pool) (G__need_row : Fn ⟨K, cl, ec, fld⟩ P w mg base 5 "_need_row" 2 [] F__need_row) (G_total : Fn ⟨K, cl, ec, fld⟩ P w mg base 3 "total" 1 [] F_total) (G__bounds : Fn ⟨K, cl, ec, fld⟩ P w mg base 5 "_bounds" 2 [] F__bounds) : FnOk P w K mg base (L2.CX P w) 6 f fd ["pool", "row"] (spF ⟨K, cl, ec, fld⟩ 2 F_spread) := by
  refine q_ok F sc_spread rfl rfl fun cdv A outer s H E hr => ?_
  have TK := takes_of (X := cxOf (L2.CX P w) P w K mg base ["pool", "row", "bounds", "bound", "low", "_", "high"] "spread" (defScope s_spread) f cdv A outer s H E) rfl rfl rfl rfl
  exact qs_cons (qs_drop (qe_call1 G__need_pool rfl (hr.mono (by first | exact Nat.le_refl _ | omega)) TK (by rfl) (qa_cons (qe_loc 0) (qa_nil)) 1 rfl (evLen_cons evLen_nil))) (qs_cons (qs_drop (qe_call1 G__need_row rfl (hr.mono (by first | exact Nat.le_refl _ | omega)) TK (by rfl) (qa_cons (qe_loc 0) (qa_cons (qe_loc 1) (qa_nil))) 2 rfl (evLen_cons (evLen_cons evLen_nil)))) (qs_cons (qs_comp (own := [("bound", 3)]) (n := 1000000) (i := 2) rfl (sc_spread).nd rfl rfl rfl (qi_seq rfl (qe_call1 G__bounds rfl (hr.mono (by first | exact Nat.le_refl _ | omega)) TK (by rfl) (qa_cons (qe_loc 0) (qa_cons (qe_loc 1) (qa_nil))) 2 rfl (evLen_cons (evLen_cons evLen_nil)))) (by change BlkOk ["pool", "row", "bounds", "bound", "low", "_", "high"] (defScope s_spread) _ _; exact blkOk_by (by decide +kernel)) (fun _ _ _ _ _ => pg_name (i := 3) (sc_spread).nd rfl (by first | exact Or.inl rfl | exact Or.inr rfl)) (ct_name (by decide)) (fun _ _ _ _ _ => qc_one (t_cmp c_isNot (qe_loc 3) (qe_non))) (fun _ _ _ _ _ => qe_loc 3)) (qs_one (qs_ret (qe_tup (qa_cons (qe_call1 G_total rfl (hr.mono (by first | exact Nat.le_refl _ | omega)) TK (by rfl) (qa_cons (qe_comp (own := [("low", 4), ("_", 5)]) (n := 1000000) rfl (sc_spread).nd (qi_seq rfl (qe_loc 2)) (by change BlkOk ["pool", "row", "bounds", "bound", "low", "_", "high"] (defScope s_spread) _ _; exact blkOk_by (by decide +kernel)) (fun _ _ _ _ _ => pg_tup rfl (pgs_cons (pg_name (i := 4) (sc_spread).nd rfl (by first | exact Or.inl rfl | exact Or.inr rfl)) (pgs_cons (pg_name (i := 5) (sc_spread).nd rfl (by first | exact Or.inl rfl | exact Or.inr rfl)) pgs_nil))) (ct_pair (by decide) (by decide)) (fun _ _ _ _ _ => qc_nil) (fun _ _ _ _ _ => qe_loc 4)) (qa_nil)) 1 rfl (evLen_cons evLen_nil)) (qa_cons (qe_call1 G_total rfl (hr.mono (by first | exact Nat.le_refl _ | omega)) TK (by rfl) (qa_cons (qe_comp (own := [("_", 5), ("high", 6)]) (n := 1000000) rfl (sc_spread).nd (qi_seq rfl (qe_loc 2)) (by change BlkOk ["pool", "row", "bounds", "bound", "low", "_", "high"] (defScope s_spread) _ _; exact blkOk_by (by decide +kernel)) (fun _ _ _ _ _ => pg_tup rfl (pgs_cons (pg_name (i := 5) (sc_spread).nd rfl (by first | exact Or.inl rfl | exact Or.inr rfl)) (pgs_cons (pg_name (i := 6) (sc_spread).nd rfl (by first | exact Or.inl rfl | exact Or.inr rfl)) pgs_nil))) (ct_pair (by decide) (by decide)) (fun _ _ _ _ _ => qc_nil) (fun _ _ _ _ _ => qe_loc 6)) (qa_nil)) 1 rfl (evLen_cons evLen_nil)) (qa_nil))))))))
abbrev s_comes : Stmt := top 27
def F_comes : List W → Sto → Res W := defn 4 (sSeq (sSet (tgTup 2 (tgCons (tgName 2) (tgCons (tgName 3) (tgNil)))) (eCall (F_spread) [] (evCons (eLoc 0) (evCons (eLoc 1) (evNil))))) (sRet (eAnd (eCall (F_is_below) [] (evCons (eLoc 2) (evCons (eLit (.tup [.int 1, .int 1])) (evNil)))) (eNot (eCall (F_is_below) [] (evCons (eLoc 3) (evCons (eLit (.tup [.int 1, .int 1])) (evNil))))))))
theorem sc_comes : FnScope ["pool", "row", "lows", "highs"] ["pool", "row"] (defScope s_comes) := ⟨rfl, rfl, rfl, by decide +kernel, rfl, by decide +kernel, by decide +kernel⟩
theorem ok_comes {f : Addr} {fd : FuncData} (F : L2.Fun K "comes" "comes" s_comes f fd) (T : TX K mg cl ec fld) (G_spread : Fn ⟨K, cl, ec, fld⟩ P w mg base 6 "spread" 2 [] F_spread) (G_is_below : Fn ⟨K, cl, ec, fld⟩ P w mg base 1 "is_below" 2 [] F_is_below) : FnOk P w K mg base (L2.CX P w) 7 f fd ["pool", "row"] (spF ⟨K, cl, ec, fld⟩ 2 F_comes) := by
  refine q_ok F sc_comes rfl rfl fun cdv A outer s H E hr => ?_
  have TK := takes_of (X := cxOf (L2.CX P w) P w K mg base ["pool", "row", "lows", "highs"] "comes" (defScope s_comes) f cdv A outer s H E) rfl rfl rfl rfl
  exact qs_cons (qs_set (qe_call1 G_spread rfl (hr.mono (by first | exact Nat.le_refl _ | omega)) TK (by rfl) (qa_cons (qe_loc 0) (qa_cons (qe_loc 1) (qa_nil))) 2 rfl (evLen_cons (evLen_cons evLen_nil))) (qg_tup (n := 2) rfl rfl (qg_cons (qg_name (i := 2) (sc_comes).nd rfl (by first | exact Or.inl rfl | exact Or.inr rfl)) (qg_cons (qg_name (i := 3) (sc_comes).nd rfl (by first | exact Or.inl rfl | exact Or.inr rfl)) (qg_nil))))) (qs_one (qs_ret (qe_and (qe_call1 G_is_below rfl (hr.mono (by first | exact Nat.le_refl _ | omega)) TK (by rfl) (qa_cons (qe_loc 2) (qa_cons (q_gtup (ns := [1, 1]) rfl (by rfl) T.k_ONE) (qa_nil))) 2 rfl (evLen_cons (evLen_cons evLen_nil))) (qe_one (qe_not (qe_call1 G_is_below rfl (hr.mono (by first | exact Nat.le_refl _ | omega)) TK (by rfl) (qa_cons (qe_loc 3) (qa_cons (q_gtup (ns := [1, 1]) rfl (by rfl) T.k_ONE) (qa_nil))) 2 rfl (evLen_cons (evLen_cons evLen_nil))))))))
abbrev s__can_come_to : Stmt := top 44
def F__can_come_to : List W → Sto → Res W := defn 5 (sSeq (sIf (bTru (eB fAny (evCons (eComp 1000000 [2, 3] (vSeq (eLoc 0)) (tgPair 2 3) (bYes) (eBin wLt (eLoc 3) (eLoc 2))) (evNil)))) (sRet (eLit (.bl false))) (sNil)) (sRet (eChain wLe wLe (eB fSumS (evCons (eComp 1000000 [2, 4] (vSeq (eLoc 0)) (tgPair 2 4) (bYes) (eLoc 2)) (evNil))) (eLoc 1) (eB fSumS (evCons (eComp 1000000 [4, 3] (vSeq (eLoc 0)) (tgPair 4 3) (bYes) (eLoc 3)) (evNil))))))
theorem sc__can_come_to : FnScope ["limits", "many", "least", "most", "_"] ["limits", "many"] (defScope s__can_come_to) := ⟨rfl, rfl, rfl, by decide +kernel, rfl, by decide +kernel, by decide +kernel⟩
theorem ok__can_come_to {f : Addr} {fd : FuncData} (F : L2.Fun K "_can_come_to" "_can_come_to" s__can_come_to f fd) (T : TX K mg cl ec fld) : FnOk P w K mg base (L2.CX P w) 1 f fd ["limits", "many"] (spF ⟨K, cl, ec, fld⟩ 2 F__can_come_to) := by
  refine q_ok F sc__can_come_to rfl rfl fun cdv A outer s H E hr => ?_
  have TK := takes_of (X := cxOf (L2.CX P w) P w K mg base ["limits", "many", "least", "most", "_"] "_can_come_to" (defScope s__can_come_to) f cdv A outer s H E) rfl rfl rfl rfl
  exact qs_cons (qs_if (qt_tru rfl (qe_blt (cr_any rfl) (ok_any rfl) (by rfl) T.b_any (by decide +kernel) (qa_cons (qe_comp (own := [("least", 2), ("most", 3)]) (n := 1000000) rfl (sc__can_come_to).nd (qi_seq rfl (qe_loc 0)) (by change BlkOk ["limits", "many", "least", "most", "_"] (defScope s__can_come_to) _ _; exact blkOk_by (by decide +kernel)) (fun _ _ _ _ _ => pg_tup rfl (pgs_cons (pg_name (i := 2) (sc__can_come_to).nd rfl (by first | exact Or.inl rfl | exact Or.inr rfl)) (pgs_cons (pg_name (i := 3) (sc__can_come_to).nd rfl (by first | exact Or.inl rfl | exact Or.inr rfl)) pgs_nil))) (ct_pair (by decide) (by decide)) (fun _ _ _ _ _ => qc_nil) (fun _ _ _ _ _ => q_cmp c_lt (qe_loc 3) (qe_loc 2))) (qa_nil)))) (qs_one (qs_ret (qe_bl))) (qs_nil)) (qs_one (qs_ret (q_chain c_le c_le (qe_blt (cr_sumT rfl) (ok_sumS rfl) (by rfl) T.b_sum (by decide +kernel) (qa_cons (qe_comp (own := [("least", 2), ("_", 4)]) (n := 1000000) rfl (sc__can_come_to).nd (qi_seq rfl (qe_loc 0)) (by change BlkOk ["limits", "many", "least", "most", "_"] (defScope s__can_come_to) _ _; exact blkOk_by (by decide +kernel)) (fun _ _ _ _ _ => pg_tup rfl (pgs_cons (pg_name (i := 2) (sc__can_come_to).nd rfl (by first | exact Or.inl rfl | exact Or.inr rfl)) (pgs_cons (pg_name (i := 4) (sc__can_come_to).nd rfl (by first | exact Or.inl rfl | exact Or.inr rfl)) pgs_nil))) (ct_pair (by decide) (by decide)) (fun _ _ _ _ _ => qc_nil) (fun _ _ _ _ _ => qe_loc 2)) (qa_nil))) (qe_loc 1) (qe_blt (cr_sumT rfl) (ok_sumS rfl) (by rfl) T.b_sum (by decide +kernel) (qa_cons (qe_comp (own := [("_", 4), ("most", 3)]) (n := 1000000) rfl (sc__can_come_to).nd (qi_seq rfl (qe_loc 0)) (by change BlkOk ["limits", "many", "least", "most", "_"] (defScope s__can_come_to) _ _; exact blkOk_by (by decide +kernel)) (fun _ _ _ _ _ => pg_tup rfl (pgs_cons (pg_name (i := 4) (sc__can_come_to).nd rfl (by first | exact Or.inl rfl | exact Or.inr rfl)) (pgs_cons (pg_name (i := 3) (sc__can_come_to).nd rfl (by first | exact Or.inl rfl | exact Or.inr rfl)) pgs_nil))) (ct_pair (by decide) (by decide)) (fun _ _ _ _ _ => qc_nil) (fun _ _ _ _ _ => qe_loc 3)) (qa_nil))))))
abbrev s__limits : Stmt := top 43
def F__limits : List W → Sto → Res W := defn 4 (sSeq (sIf (bVal (eBin wIsN (eLoc 0) (eLit .non))) (sRet (eTup (evCons (eLit (.int 0)) (evCons (eLit (.int 0)) (evNil))))) (sNil)) (sSeq (sSet (tgTup 2 (tgCons (tgName 2) (tgCons (tgName 3) (tgNil)))) (eLoc 0)) (sRet (eTup (evCons (eBin wAdd (eBin wDiv (eBin wMul (eBin wIx (eLoc 2) (eLit (.int 0))) (eLoc 1)) (eBin wIx (eLoc 2) (eLit (.int 1)))) (eLit (.int 1))) (evCons (eBin wDiv (eBin wMul (eBin wIx (eLoc 3) (eLit (.int 0))) (eLoc 1)) (eBin wIx (eLoc 3) (eLit (.int 1)))) (evNil)))))))
theorem sc__limits : FnScope ["bound", "many", "low", "high"] ["bound", "many"] (defScope s__limits) := ⟨rfl, rfl, rfl, by decide +kernel, rfl, by decide +kernel, by decide +kernel⟩
theorem ok__limits {f : Addr} {fd : FuncData} (F : L2.Fun K "_limits" "_limits" s__limits f fd) (T : TX K mg cl ec fld) : FnOk P w K mg base (L2.CX P w) 1 f fd ["bound", "many"] (spF ⟨K, cl, ec, fld⟩ 2 F__limits) := by
  refine q_ok F sc__limits rfl rfl fun cdv A outer s H E hr => ?_
  have TK := takes_of (X := cxOf (L2.CX P w) P w K mg base ["bound", "many", "low", "high"] "_limits" (defScope s__limits) f cdv A outer s H E) rfl rfl rfl rfl
  exact qs_cons (qs_if (t_cmp c_is (qe_loc 0) (qe_non)) (qs_one (qs_ret (qe_tup (qa_cons (qe_int) (qa_cons (qe_int) (qa_nil)))))) (qs_nil)) (qs_cons (qs_set (qe_loc 0) (qg_tup (n := 2) rfl rfl (qg_cons (qg_name (i := 2) (sc__limits).nd rfl (by first | exact Or.inl rfl | exact Or.inr rfl)) (qg_cons (qg_name (i := 3) (sc__limits).nd rfl (by first | exact Or.inl rfl | exact Or.inr rfl)) (qg_nil))))) (qs_one (qs_ret (qe_tup (qa_cons (q_add rfl (q_div (q_mul rfl (qe_ix rfl (qe_loc 2) (qe_int)) (qe_loc 1)) (qe_ix rfl (qe_loc 2) (qe_int))) (qe_int)) (qa_cons (q_div (q_mul rfl (qe_ix rfl (qe_loc 3) (qe_int)) (qe_loc 1)) (qe_ix rfl (qe_loc 3) (qe_int))) (qa_nil)))))))
abbrev s__first_stakes : Stmt := top 45
def F__first_stakes : List W → Sto → Res W := defn 9 (sSeq (sSet (tgName 2) (eLst (evNil))) (sSeq (sSet (tgName 3) (eLoc 1)) (sSeq (sSet (tgName 4) (eB fSumS (evCons (eComp 1000000 [8, 6] (vSeq (eLoc 0)) (tgPair 8 6) (bYes) (eLoc 6)) (evNil)))) (sSeq (sFor 1000000 (vSeq (eLoc 0)) (tgTup 2 (tgCons (tgName 5) (tgCons (tgName 6) (tgNil)))) (sSeq (sAug 4 (fun a b => a - b) (eLoc 6)) (sSeq (sSet (tgName 7) (eB fMax2 (evCons (eLoc 5) (evCons (eBin wSub (eLoc 3) (eLoc 4)) (evNil))))) (sSeq (sAug 3 (fun a b => a - b) (eLoc 7)) (sDrop (eMt fAppend (eLoc 2) (evCons (eLoc 7) (evNil)))))))) (sRet (eB fTuple (evCons (eLoc 2) (evNil))))))))
theorem sc__first_stakes : FnScope ["limits", "many", "found", "left", "behind", "least", "most", "stake", "_"] ["limits", "many"] (defScope s__first_stakes) := ⟨rfl, rfl, rfl, by decide +kernel, rfl, by decide +kernel, by decide +kernel⟩
theorem ok__first_stakes {f : Addr} {fd : FuncData} (F : L2.Fun K "_first_stakes" "_first_stakes" s__first_stakes f fd) (T : TX K mg cl ec fld) : FnOk P w K mg base (L2.CX P w) 1 f fd ["limits", "many"] (spF ⟨K, cl, ec, fld⟩ 2 F__first_stakes) := by
  refine q_ok F sc__first_stakes rfl rfl fun cdv A outer s H E hr => ?_
  have TK := takes_of (X := cxOf (L2.CX P w) P w K mg base ["limits", "many", "found", "left", "behind", "least", "most", "stake", "_"] "_first_stakes" (defScope s__first_stakes) f cdv A outer s H E) rfl rfl rfl rfl
  exact qs_cons (qs_set (qe_lst (qa_nil)) (qg_name (i := 2) (sc__first_stakes).nd rfl (by first | exact Or.inl rfl | exact Or.inr rfl))) (qs_cons (qs_set (qe_loc 1) (qg_name (i := 3) (sc__first_stakes).nd rfl (by first | exact Or.inl rfl | exact Or.inr rfl))) (qs_cons (qs_set (qe_blt (cr_sumT rfl) (ok_sumS rfl) (by rfl) T.b_sum (by decide +kernel) (qa_cons (qe_comp (own := [("_", 8), ("most", 6)]) (n := 1000000) rfl (sc__first_stakes).nd (qi_seq rfl (qe_loc 0)) (by change BlkOk ["limits", "many", "found", "left", "behind", "least", "most", "stake", "_"] (defScope s__first_stakes) _ _; exact blkOk_by (by decide +kernel)) (fun _ _ _ _ _ => pg_tup rfl (pgs_cons (pg_name (i := 8) (sc__first_stakes).nd rfl (by first | exact Or.inl rfl | exact Or.inr rfl)) (pgs_cons (pg_name (i := 6) (sc__first_stakes).nd rfl (by first | exact Or.inl rfl | exact Or.inr rfl)) pgs_nil))) (ct_pair (by decide) (by decide)) (fun _ _ _ _ _ => qc_nil) (fun _ _ _ _ _ => qe_loc 6)) (qa_nil))) (qg_name (i := 4) (sc__first_stakes).nd rfl (by first | exact Or.inl rfl | exact Or.inr rfl))) (qs_cons (qs_for (n := 1000000) (passes_of (K := _) rfl) rfl (qi_seq rfl (qe_loc 0)) (qg_tup (n := 2) rfl rfl (qg_cons (qg_name (i := 5) (sc__first_stakes).nd rfl (by first | exact Or.inl rfl | exact Or.inr rfl)) (qg_cons (qg_name (i := 6) (sc__first_stakes).nd rfl (by first | exact Or.inl rfl | exact Or.inr rfl)) (qg_nil)))) (qs_cons (qs_aug (i := 4) ip_sub (sc__first_stakes).nd rfl (by first | exact Or.inl rfl | exact Or.inr rfl) (qe_loc 6)) (qs_cons (qs_set (qe_blt (call_max2 rfl) ok_max2 (by rfl) T.b_max (by decide +kernel) (qa_cons (qe_loc 5) (qa_cons (q_sub (qe_loc 3) (qe_loc 4)) (qa_nil)))) (qg_name (i := 7) (sc__first_stakes).nd rfl (by first | exact Or.inl rfl | exact Or.inr rfl))) (qs_cons (qs_aug (i := 3) ip_sub (sc__first_stakes).nd rfl (by first | exact Or.inl rfl | exact Or.inr rfl) (qe_loc 7)) (qs_one (qs_drop (qe_mt rfl PySem.F.slot_list_append PySem.F.type_list_append mt_append mok_append (qe_loc 2) (qa_cons (qe_loc 7) (qa_nil))))))))) (qs_one (qs_ret (qe_typ call_tuple_of (ok_tuple rfl) (by rfl) T.b_tuple (by decide +kernel) (qa_cons (qe_loc 2) (qa_nil))))))))
abbrev s_least_stakes : Stmt := top 28
def F_least_stakes : List W → Sto → Res W := defn 6 (sSeq (sIf (bNot (bTru (eCall (F_comes) [] (evCons (eLoc 0) (evCons (eLoc 1) (evNil)))))) (sRet (eLit .non)) (sNil)) (sSeq (sSet (tgName 2) (eCall (F__bounds) [] (evCons (eLoc 0) (evCons (eLoc 1) (evNil))))) (sSeq (sFor 1000000 (vRng2 (evCons (eLit (.int 1)) (evCons (eBin wAdd (eLit (.int 5000)) (eLit (.int 1))) (evNil)))) (tgName 3) (sSeq (sSet (tgName 4) (eComp 1000000 [5] (vSeq (eLoc 2)) (tgName 5) (bYes) (eCall (F__limits) [] (evCons (eLoc 5) (evCons (eLoc 3) (evNil)))))) (sIf (bTru (eCall (F__can_come_to) [] (evCons (eLoc 4) (evCons (eLoc 3) (evNil))))) (sRet (eCall (F__first_stakes) [] (evCons (eLoc 4) (evCons (eLoc 3) (evNil))))) (sNil)))) (sRaise 1 (evCons (eLit (.str "stakes")) (evNil))))))
theorem sc_least_stakes : FnScope ["pool", "row", "bounds", "many", "limits", "bound"] ["pool", "row"] (defScope s_least_stakes) := ⟨rfl, rfl, rfl, by decide +kernel, rfl, by decide +kernel, by decide +kernel⟩
theorem ok_least_stakes {f : Addr} {fd : FuncData} (F : L2.Fun K "least_stakes" "least_stakes" s_least_stakes f fd) (T : TX K mg cl ec fld) (G__bounds : Fn ⟨K, cl, ec, fld⟩ P w mg base 5 "_bounds" 2 [] F__bounds) (G_comes : Fn ⟨K, cl, ec, fld⟩ P w mg base 7 "comes" 2 [] F_comes) (G__can_come_to : Fn ⟨K, cl, ec, fld⟩ P w mg base 1 "_can_come_to" 2 [] F__can_come_to) (G__limits : Fn ⟨K, cl, ec, fld⟩ P w mg base 1 "_limits" 2 [] F__limits) (G__first_stakes : Fn ⟨K, cl, ec, fld⟩ P w mg base 1 "_first_stakes" 2 [] F__first_stakes) : FnOk P w K mg base (L2.CX P w) 8 f fd ["pool", "row"] (spF ⟨K, cl, ec, fld⟩ 2 F_least_stakes) := by
  refine q_ok F sc_least_stakes rfl rfl fun cdv A outer s H E hr => ?_
  have TK := takes_of (X := cxOf (L2.CX P w) P w K mg base ["pool", "row", "bounds", "many", "limits", "bound"] "least_stakes" (defScope s_least_stakes) f cdv A outer s H E) rfl rfl rfl rfl
  exact qs_cons (qs_if (qt_not (qt_tru rfl (qe_call1 G_comes rfl (hr.mono (by first | exact Nat.le_refl _ | omega)) TK (by rfl) (qa_cons (qe_loc 0) (qa_cons (qe_loc 1) (qa_nil))) 2 rfl (evLen_cons (evLen_cons evLen_nil))))) (qs_one (qs_ret (qe_non))) (qs_nil)) (qs_cons (qs_set (qe_call1 G__bounds rfl (hr.mono (by first | exact Nat.le_refl _ | omega)) TK (by rfl) (qa_cons (qe_loc 0) (qa_cons (qe_loc 1) (qa_nil))) 2 rfl (evLen_cons (evLen_cons evLen_nil))) (qg_name (i := 2) (sc_least_stakes).nd rfl (by first | exact Or.inl rfl | exact Or.inr rfl))) (qs_cons (qs_for (n := 1000000) (passes_of (K := _) rfl) rfl (qi_rng2 (by rfl) T.b_range (qa_cons (qe_int) (qa_cons (q_add rfl (q_gint (by rfl) T.k_MOST_IN_ALL) (qe_int)) (qa_nil)))) (qg_name (i := 3) (sc_least_stakes).nd rfl (by first | exact Or.inl rfl | exact Or.inr rfl)) (qs_cons (qs_comp (own := [("bound", 5)]) (n := 1000000) (i := 4) rfl (sc_least_stakes).nd rfl rfl rfl (qi_seq rfl (qe_loc 2)) (by change BlkOk ["pool", "row", "bounds", "many", "limits", "bound"] (defScope s_least_stakes) _ _; exact blkOk_by (by decide +kernel)) (fun _ _ _ _ _ => pg_name (i := 5) (sc_least_stakes).nd rfl (by first | exact Or.inl rfl | exact Or.inr rfl)) (ct_name (by decide)) (fun _ _ _ _ _ => qc_nil) (fun _ _ _ _ _ => qe_call1 G__limits rfl (hr.mono (by first | exact Nat.le_refl _ | omega)) (takesX (CX := L2.CX P w)) (by rfl) (qa_cons (qe_loc 5) (qa_cons (qe_loc 3) (qa_nil))) 2 rfl (evLen_cons (evLen_cons evLen_nil)))) (qs_one (qs_if (qt_tru rfl (qe_call1 G__can_come_to rfl (hr.mono (by first | exact Nat.le_refl _ | omega)) TK (by rfl) (qa_cons (qe_loc 4) (qa_cons (qe_loc 3) (qa_nil))) 2 rfl (evLen_cons (evLen_cons evLen_nil)))) (qs_one (qs_ret (qe_call1 G__first_stakes rfl (hr.mono (by first | exact Nat.le_refl _ | omega)) TK (by rfl) (qa_cons (qe_loc 4) (qa_cons (qe_loc 3) (qa_nil))) 2 rfl (evLen_cons (evLen_cons evLen_nil))))) (qs_nil))))) (qs_one (qs_raise (c := 1) rfl (by rfl) T.e_TooMany T.em_TooMany hr TK rfl (qa_cons (qe_str) (qa_nil))))))
abbrev s__are_own : Stmt := top 35
def F__are_own : List W → Sto → Res W := defn 4 (sSeq (sIf (bOr (bNot (bTru (eCall (F_is_sequence) [] (evCons (eLoc 1) (evNil))))) (bVal (eBin wNe (eB fLen (evCons (eLoc 1) (evNil))) (eB fLen (evCons (eLoc 0) (evNil)))))) (sRet (eLit (.bl false))) (sNil)) (sRet (eB fAll (evCons (eComp 1000000 [2, 3] (vZip (evCons (eLoc 1) (evCons (eLoc 0) (evNil)))) (tgPair 2 3) (bYes) (eCall (F_is_integer_within) [] (evCons (eLoc 2) (evCons (eLit (.int 0)) (evCons (eLoc 3) (evNil)))))) (evNil)))))
theorem sc__are_own : FnScope ["stakes", "value", "part", "stake"] ["stakes", "value"] (defScope s__are_own) := ⟨rfl, rfl, rfl, by decide +kernel, rfl, by decide +kernel, by decide +kernel⟩
theorem ok__are_own {f : Addr} {fd : FuncData} (F : L2.Fun K "_are_own" "_are_own" s__are_own f fd) (T : TX K mg cl ec fld) (G_is_sequence : Fn ⟨K, cl, ec, fld⟩ P w mg base 1 "is_sequence" 1 [] F_is_sequence) (G_is_integer_within : Fn ⟨K, cl, ec, fld⟩ P w mg base 2 "is_integer_within" 3 [] F_is_integer_within) : FnOk P w K mg base (L2.CX P w) 3 f fd ["stakes", "value"] (spF ⟨K, cl, ec, fld⟩ 2 F__are_own) := by
  refine q_ok F sc__are_own rfl rfl fun cdv A outer s H E hr => ?_
  have TK := takes_of (X := cxOf (L2.CX P w) P w K mg base ["stakes", "value", "part", "stake"] "_are_own" (defScope s__are_own) f cdv A outer s H E) rfl rfl rfl rfl
  exact qs_cons (qs_if (qw_pt (qw_or (qt_not (qt_tru rfl (qe_call1 G_is_sequence rfl (hr.mono (by first | exact Nat.le_refl _ | omega)) TK (by rfl) (qa_cons (qe_loc 1) (qa_nil)) 1 rfl (evLen_cons evLen_nil)))) (qw_or1 (t_cmp (c_ne rfl hr) (qe_blt call_len (ok_len rfl) (by rfl) T.b_len (by decide +kernel) (qa_cons (qe_loc 1) (qa_nil))) (qe_blt call_len (ok_len rfl) (by rfl) T.b_len (by decide +kernel) (qa_cons (qe_loc 0) (qa_nil))))))) (qs_one (qs_ret (qe_bl))) (qs_nil)) (qs_one (qs_ret (qe_blt (cr_all rfl) (ok_all rfl) (by rfl) T.b_all (by decide +kernel) (qa_cons (qe_comp (own := [("part", 2), ("stake", 3)]) (n := 1000000) rfl (sc__are_own).nd (qi_zip rfl (by rfl) T.b_zip (qa_cons (qe_loc 1) (qa_cons (qe_loc 0) (qa_nil)))) (by change BlkOk ["stakes", "value", "part", "stake"] (defScope s__are_own) _ _; exact blkOk_by (by decide +kernel)) (fun _ _ _ _ _ => pg_tup rfl (pgs_cons (pg_name (i := 2) (sc__are_own).nd rfl (by first | exact Or.inl rfl | exact Or.inr rfl)) (pgs_cons (pg_name (i := 3) (sc__are_own).nd rfl (by first | exact Or.inl rfl | exact Or.inr rfl)) pgs_nil))) (ct_pair (by decide) (by decide)) (fun _ _ _ _ _ => qc_nil) (fun _ _ _ _ _ => qe_call1 G_is_integer_within rfl (hr.mono (by first | exact Nat.le_refl _ | omega)) (takesX (CX := L2.CX P w)) (by rfl) (qa_cons (qe_loc 2) (qa_cons (qe_int) (qa_cons (qe_loc 3) (qa_nil)))) 3 rfl (evLen_cons (evLen_cons (evLen_cons evLen_nil))))) (qa_nil)))))
abbrev s__won : Stmt := top 40
def F__won : List W → Sto → Res W := defn 2 (sRet (eIf (bVal (eBin wIsN (eLoc 1) (eLit .non))) (eLit (.tup [.int 0, .int 1])) (eCall (F_times) [] (evCons (eTup (evCons (eLoc 0) (evCons (eLit (.int 1)) (evNil)))) (evCons (eLoc 1) (evNil))))))
theorem sc__won : FnScope ["stake", "paid"] ["stake", "paid"] (defScope s__won) := ⟨rfl, rfl, rfl, by decide +kernel, rfl, by decide +kernel, by decide +kernel⟩
theorem ok__won {f : Addr} {fd : FuncData} (F : L2.Fun K "_won" "_won" s__won f fd) (T : TX K mg cl ec fld) (G_times : Fn ⟨K, cl, ec, fld⟩ P w mg base 2 "times" 2 [] F_times) : FnOk P w K mg base (L2.CX P w) 3 f fd ["stake", "paid"] (spF ⟨K, cl, ec, fld⟩ 2 F__won) := by
  refine q_ok F sc__won rfl rfl fun cdv A outer s H E hr => ?_
  have TK := takes_of (X := cxOf (L2.CX P w) P w K mg base ["stake", "paid"] "_won" (defScope s__won) f cdv A outer s H E) rfl rfl rfl rfl
  exact qs_one (qs_ret (qe_if (t_cmp c_is (qe_loc 1) (qe_non)) (q_gtup (ns := [0, 1]) rfl (by rfl) T.k_ZERO) (qe_call1 G_times rfl (hr.mono (by first | exact Nat.le_refl _ | omega)) TK (by rfl) (qa_cons (qe_tup (qa_cons (qe_loc 0) (qa_cons (qe_int) (qa_nil)))) (qa_cons (qe_loc 1) (qa_nil))) 2 rfl (evLen_cons (evLen_cons evLen_nil)))))
abbrev s_pool_gain : Stmt := top 30
def F_pool_gain : List W → Sto → Res W := defn 6 (sSeq (sDrop (eCall (F__need_pool) [] (evCons (eLoc 0) (evNil)))) (sSeq (sDrop (eCall (F__need_stakes) [] (evCons (eLoc 0) (evCons (eLoc 1) (evNil))))) (sSeq (sIf (bNot (bTru (eCall (F__are_own) [] (evCons (eLoc 1) (evCons (eLoc 2) (evNil)))))) (sRaise 0 (evCons (eLit (.int 3)) (evNil))) (sNil)) (sSeq (sSet (tgName 3) (eTup (evCons (eB fSumS (evCons (eLoc 2) (evNil))) (evCons (eLit (.int 1)) (evNil))))) (sRet (eB fTuple (evCons (eComp 1000000 [4, 5] (vZip (evCons (eLoc 2) (evCons (eCall (F_payments) [] (evCons (eLoc 0) (evCons (eLoc 1) (evNil)))) (evNil)))) (tgPair 4 5) (bYes) (eCall (F_minus) [] (evCons (eCall (F__won) [] (evCons (eLoc 4) (evCons (eLoc 5) (evNil)))) (evCons (eLoc 3) (evNil))))) (evNil))))))))
theorem sc_pool_gain : FnScope ["pool", "stakes", "own", "lost", "stake", "paid"] ["pool", "stakes", "own"] (defScope s_pool_gain) := ⟨rfl, rfl, rfl, by decide +kernel, rfl, by decide +kernel, by decide +kernel⟩
theorem ok_pool_gain {f : Addr} {fd : FuncData} (F : L2.Fun K "pool_gain" "pool_gain" s_pool_gain f fd) (T : TX K mg cl ec fld) (G__need_pool : Fn ⟨K, cl, ec, fld⟩ P w mg base 5 "_need_pool" 1 [] F__need_pool) (G__need_stakes : Fn ⟨K, cl, ec, fld⟩ P w mg base 3 "_need_stakes" 2 [] F__need_stakes) (G__are_own : Fn ⟨K, cl, ec, fld⟩ P w mg base 3 "_are_own" 2 [] F__are_own) (G_minus : Fn ⟨K, cl, ec, fld⟩ P w mg base 2 "minus" 2 [] F_minus) (G__won : Fn ⟨K, cl, ec, fld⟩ P w mg base 3 "_won" 2 [] F__won) (G_payments : Fn ⟨K, cl, ec, fld⟩ P w mg base 6 "payments" 2 [] F_payments) : FnOk P w K mg base (L2.CX P w) 7 f fd ["pool", "stakes", "own"] (spF ⟨K, cl, ec, fld⟩ 3 F_pool_gain) := by
  refine q_ok F sc_pool_gain rfl rfl fun cdv A outer s H E hr => ?_
  have TK := takes_of (X := cxOf (L2.CX P w) P w K mg base ["pool", "stakes", "own", "lost", "stake", "paid"] "pool_gain" (defScope s_pool_gain) f cdv A outer s H E) rfl rfl rfl rfl
  exact qs_cons (qs_drop (qe_call1 G__need_pool rfl (hr.mono (by first | exact Nat.le_refl _ | omega)) TK (by rfl) (qa_cons (qe_loc 0) (qa_nil)) 1 rfl (evLen_cons evLen_nil))) (qs_cons (qs_drop (qe_call1 G__need_stakes rfl (hr.mono (by first | exact Nat.le_refl _ | omega)) TK (by rfl) (qa_cons (qe_loc 0) (qa_cons (qe_loc 1) (qa_nil))) 2 rfl (evLen_cons (evLen_cons evLen_nil)))) (qs_cons (qs_if (qt_not (qt_tru rfl (qe_call1 G__are_own rfl (hr.mono (by first | exact Nat.le_refl _ | omega)) TK (by rfl) (qa_cons (qe_loc 1) (qa_cons (qe_loc 2) (qa_nil))) 2 rfl (evLen_cons (evLen_cons evLen_nil))))) (qs_one (qs_raise (c := 0) rfl (by rfl) T.e_BadValue T.em_BadValue hr TK rfl (qa_cons (qe_int) (qa_nil)))) (qs_nil)) (qs_cons (qs_set (qe_tup (qa_cons (qe_blt (cr_sumT rfl) (ok_sumS rfl) (by rfl) T.b_sum (by decide +kernel) (qa_cons (qe_loc 2) (qa_nil))) (qa_cons (qe_int) (qa_nil)))) (qg_name (i := 3) (sc_pool_gain).nd rfl (by first | exact Or.inl rfl | exact Or.inr rfl))) (qs_one (qs_ret (qe_typ call_tuple_of (ok_tuple rfl) (by rfl) T.b_tuple (by decide +kernel) (qa_cons (qe_comp (own := [("stake", 4), ("paid", 5)]) (n := 1000000) rfl (sc_pool_gain).nd (qi_zip rfl (by rfl) T.b_zip (qa_cons (qe_loc 2) (qa_cons (qe_call1 G_payments rfl (hr.mono (by first | exact Nat.le_refl _ | omega)) TK (by rfl) (qa_cons (qe_loc 0) (qa_cons (qe_loc 1) (qa_nil))) 2 rfl (evLen_cons (evLen_cons evLen_nil))) (qa_nil)))) (by change BlkOk ["pool", "stakes", "own", "lost", "stake", "paid"] (defScope s_pool_gain) _ _; exact blkOk_by (by decide +kernel)) (fun _ _ _ _ _ => pg_tup rfl (pgs_cons (pg_name (i := 4) (sc_pool_gain).nd rfl (by first | exact Or.inl rfl | exact Or.inr rfl)) (pgs_cons (pg_name (i := 5) (sc_pool_gain).nd rfl (by first | exact Or.inl rfl | exact Or.inr rfl)) pgs_nil))) (ct_pair (by decide) (by decide)) (fun _ _ _ _ _ => qc_nil) (fun _ _ _ _ _ => qe_call1 G_minus rfl (hr.mono (by first | exact Nat.le_refl _ | omega)) (takesX (CX := L2.CX P w)) (by rfl) (qa_cons (qe_call1 G__won rfl (hr.mono (by first | exact Nat.le_refl _ | omega)) (takesX (CX := L2.CX P w)) (by rfl) (qa_cons (qe_loc 4) (qa_cons (qe_loc 5) (qa_nil))) 2 rfl (evLen_cons (evLen_cons evLen_nil))) (qa_cons (qe_loc 3) (qa_nil))) 2 rfl (evLen_cons (evLen_cons evLen_nil)))) (qa_nil))))))))
abbrev s__law_so : Stmt := top 47
def F__law_so : Nat → List W → Sto → Res W
  | 0 => fun _ _ => .err
  | d + 1 => defn 3 (sSeq (sIf (bVal (eBin wIsN (eLoc 1) (eLit .non))) (sRet (eBin wIsN (eLoc 0) (eLit .non))) (sNil)) (sSeq (sIf (bTru (eIsi ans_tuple (eLoc 1))) (sSeq (sIf (bOr (bNot (bTru (eIsi ans_tuple (eLoc 0)))) (bVal (eBin wNe (eB fLen (evCons (eLoc 0) (evNil))) (eB fLen (evCons (eLoc 1) (evNil)))))) (sRet (eLit (.bl false))) (sNil)) (sSeq (sFor 1000000 (vRng1 (evCons (eB fLen (evCons (eLoc 1) (evNil))) (evNil))) (tgName 2) (sIf (bNot (bTru (eCall (F__law_so d) [] (evCons (eBin wIx (eLoc 0) (eLoc 2)) (evCons (eBin wIx (eLoc 1) (eLoc 2)) (evNil)))))) (sRet (eLit (.bl false))) (sNil))) (sRet (eLit (.bl true))))) (sNil)) (sSeq (sIf (bOr (bTru (eIsi ans_bool (eLoc 1))) (bTru (eIsi ans_bool (eLoc 0)))) (sRet (eAnd (eIsi ans_bool (eLoc 1)) (eAnd (eIsi ans_bool (eLoc 0)) (eBin wEq (eLoc 0) (eLoc 1))))) (sNil)) (sSeq (sIf (bTru (eIsi ans_int (eLoc 1))) (sRet (eAnd (eIsi ans_int (eLoc 0)) (eBin wEq (eLoc 0) (eLoc 1)))) (sNil)) (sRet (eAnd (eIsi ans_str (eLoc 1)) (eAnd (eIsi ans_str (eLoc 0)) (eBin wEq (eLoc 0) (eLoc 1)))))))))
theorem sc__law_so : FnScope ["found", "meant", "k"] ["found", "meant"] (defScope s__law_so) := ⟨rfl, rfl, rfl, by decide +kernel, rfl, by decide +kernel, by decide +kernel⟩
theorem ok__law_so {f : Addr} {fd : FuncData} (F : L2.Fun K "_law_so" "_law_so" s__law_so f fd) (T : TX K mg cl ec fld) {d : Nat} (G_self : Fn ⟨K, cl, ec, fld⟩ P w mg base (0 + d) "_law_so" 2 [] (F__law_so d)) : FnOk P w K mg base (L2.CX P w) (0 + d + 1) f fd ["found", "meant"] (spF ⟨K, cl, ec, fld⟩ 2 (F__law_so (d + 1))) := by
  refine q_ok F sc__law_so rfl rfl fun cdv A outer s H E hr => ?_
  have TK := takes_of (X := cxOf (L2.CX P w) P w K mg base ["found", "meant", "k"] "_law_so" (defScope s__law_so) f cdv A outer s H E) rfl rfl rfl rfl
  exact qs_cons (qs_if (t_cmp c_is (qe_loc 1) (qe_non)) (qs_one (qs_ret (q_cmp c_is (qe_loc 0) (qe_non)))) (qs_nil)) (qs_cons (qs_if (qt_tru rfl (qe_isi1 (T := .tup) T.ai_tuple rfl (by rfl) T.b_isinstance (qe_loc 1) (pe_bltn (v := .ty "tuple") (by rfl) T.b_tuple (by decide +kernel) rfl) (.ty _) T.an_tuple)) (qs_cons (qs_if (qw_pt (qw_or (qt_not (qt_tru rfl (qe_isi1 (T := .tup) T.ai_tuple rfl (by rfl) T.b_isinstance (qe_loc 0) (pe_bltn (v := .ty "tuple") (by rfl) T.b_tuple (by decide +kernel) rfl) (.ty _) T.an_tuple))) (qw_or1 (t_cmp (c_ne rfl hr) (qe_blt call_len (ok_len rfl) (by rfl) T.b_len (by decide +kernel) (qa_cons (qe_loc 0) (qa_nil))) (qe_blt call_len (ok_len rfl) (by rfl) T.b_len (by decide +kernel) (qa_cons (qe_loc 1) (qa_nil))))))) (qs_one (qs_ret (qe_bl))) (qs_nil)) (qs_cons (qs_for (n := 1000000) (passes_of (K := _) rfl) rfl (qi_rng1 (by rfl) T.b_range (qa_cons (qe_blt call_len (ok_len rfl) (by rfl) T.b_len (by decide +kernel) (qa_cons (qe_loc 1) (qa_nil))) (qa_nil))) (qg_name (i := 2) (sc__law_so).nd rfl (by first | exact Or.inl rfl | exact Or.inr rfl)) (qs_one (qs_if (qt_not (qt_tru rfl (qe_call1 G_self rfl (hr.mono (by omega)) TK (by rfl) (qa_cons (qe_ix rfl (qe_loc 0) (qe_loc 2)) (qa_cons (qe_ix rfl (qe_loc 1) (qe_loc 2)) (qa_nil))) 2 rfl (evLen_cons (evLen_cons evLen_nil))))) (qs_one (qs_ret (qe_bl))) (qs_nil)))) (qs_one (qs_ret (qe_bl))))) (qs_nil)) (qs_cons (qs_if (qw_pt (qw_or (qt_tru rfl (qe_isi1 (T := .bl) T.ai_bool rfl (by rfl) T.b_isinstance (qe_loc 1) (pe_bltn (v := .ty "bool") (by rfl) T.b_bool (by decide +kernel) rfl) (.ty _) T.an_bool)) (qw_or1 (qt_tru rfl (qe_isi1 (T := .bl) T.ai_bool rfl (by rfl) T.b_isinstance (qe_loc 0) (pe_bltn (v := .ty "bool") (by rfl) T.b_bool (by decide +kernel) rfl) (.ty _) T.an_bool))))) (qs_one (qs_ret (qe_and (qe_isi1 (T := .bl) T.ai_bool rfl (by rfl) T.b_isinstance (qe_loc 1) (pe_bltn (v := .ty "bool") (by rfl) T.b_bool (by decide +kernel) rfl) (.ty _) T.an_bool) (qe_and (qe_isi1 (T := .bl) T.ai_bool rfl (by rfl) T.b_isinstance (qe_loc 0) (pe_bltn (v := .ty "bool") (by rfl) T.b_bool (by decide +kernel) rfl) (.ty _) T.an_bool) (qe_one (q_cmp (c_eq rfl hr) (qe_loc 0) (qe_loc 1))))))) (qs_nil)) (qs_cons (qs_if (qt_tru rfl (qe_isi1 (T := .int) T.ai_int rfl (by rfl) T.b_isinstance (qe_loc 1) (pe_bltn (v := .ty "int") (by rfl) T.b_int (by decide +kernel) rfl) (.ty _) T.an_int)) (qs_one (qs_ret (qe_and (qe_isi1 (T := .int) T.ai_int rfl (by rfl) T.b_isinstance (qe_loc 0) (pe_bltn (v := .ty "int") (by rfl) T.b_int (by decide +kernel) rfl) (.ty _) T.an_int) (qe_one (q_cmp (c_eq rfl hr) (qe_loc 0) (qe_loc 1)))))) (qs_nil)) (qs_one (qs_ret (qe_and (qe_isi1 (T := .str) T.ai_str rfl (by rfl) T.b_isinstance (qe_loc 1) (pe_bltn (v := .ty "str") (by rfl) T.b_str (by decide +kernel) rfl) (.ty _) T.an_str) (qe_and (qe_isi1 (T := .str) T.ai_str rfl (by rfl) T.b_isinstance (qe_loc 0) (pe_bltn (v := .ty "str") (by rfl) T.b_str (by decide +kernel) rfl) (.ty _) T.an_str) (qe_one (q_cmp (c_eq rfl hr) (qe_loc 0) (qe_loc 1))))))))))
abbrev s__law_numbers : Stmt := top 48
def F__law_numbers : List W → Sto → Res W := defn 6 (sSeq (sSet (tgName 1) (eLst (evNil))) (sSeq (sFor 1000000 (vSeq (eSl (eLoc 0) (poNone) (poSome (eLit (.int 63))))) (tgName 2) (sIf (bVal (eBin wGe (eLoc 2) (eBin wPow (eLit (.int 10)) (eLit (.int 18))))) (sSeq (sSet (tgName 3) (eLoc 2)) (sFor 1000000 (vRng1 (evCons (eLit (.int 60)) (evNil))) (tgName 4) (sSeq (sIf (bVal (eBin wEq (eLoc 3) (eLit (.int 0)))) (sBreak) (sNil)) (sSeq (sDrop (eMt fAppend (eLoc 1) (evCons (eBin wMod (eB fInt (evCons (eLoc 3) (evNil))) (eLit (.int 997))) (evNil)))) (sSet (tgName 3) (eBin wDiv (eLoc 3) (eLit (.int 997)))))))) (sFor 1000000 (vRng1 (evCons (eLit (.int 4)) (evNil))) (tgName 4) (sSeq (sSet (tgName 5) (eBin wMod (eB fInt (evCons (eBin wAdd (eBin wAdd (eBin wMul (eLoc 2) (eLit (.int 48271))) (eBin wMul (eLoc 4) (eLit (.int 69621)))) (eLit (.int 11))) (evNil))) (eLit (.int 2147483647)))) (sDrop (eMt fAppend (eLoc 1) (evCons (eBin wMod (eB fInt (evCons (eBin wAdd (eBin wMul (eLoc 5) (eLit (.int 16807))) (eLoc 4)) (evNil))) (eLit (.int 2147483629))) (evNil)))))))) (sSeq (sIf (bVal (eBin wEq (eB fLen (evCons (eLoc 1) (evNil))) (eLit (.int 0)))) (sDrop (eMt fAppend (eLoc 1) (evCons (eLit (.int 0)) (evNil)))) (sNil)) (sRet (eLoc 1)))))
theorem sc__law_numbers : FnScope ["script", "row", "cell", "left", "k", "mixed"] ["script"] (defScope s__law_numbers) := ⟨rfl, rfl, rfl, by decide +kernel, rfl, by decide +kernel, by decide +kernel⟩
theorem ok__law_numbers {f : Addr} {fd : FuncData} (F : L2.Fun K "_law_numbers" "_law_numbers" s__law_numbers f fd) (T : TX K mg cl ec fld) : FnOk P w K mg base (L2.CX P w) 1 f fd ["script"] (spF ⟨K, cl, ec, fld⟩ 1 F__law_numbers) := by
  refine q_ok F sc__law_numbers rfl rfl fun cdv A outer s H E hr => ?_
  have TK := takes_of (X := cxOf (L2.CX P w) P w K mg base ["script", "row", "cell", "left", "k", "mixed"] "_law_numbers" (defScope s__law_numbers) f cdv A outer s H E) rfl rfl rfl rfl
  exact qs_cons (qs_set (qe_lst (qa_nil)) (qg_name (i := 1) (sc__law_numbers).nd rfl (by first | exact Or.inl rfl | exact Or.inr rfl))) (qs_cons (qs_for (n := 1000000) (passes_of (K := _) rfl) rfl (qi_seq rfl (qe_sl rfl (qe_loc 0) (qo_none) (qo_some (qe_int)))) (qg_name (i := 2) (sc__law_numbers).nd rfl (by first | exact Or.inl rfl | exact Or.inr rfl)) (qs_one (qs_if (t_cmp c_ge (qe_loc 2) (q_pow (qe_int) (qe_int))) (qs_cons (qs_set (qe_loc 2) (qg_name (i := 3) (sc__law_numbers).nd rfl (by first | exact Or.inl rfl | exact Or.inr rfl))) (qs_one (qs_for (n := 1000000) (passes_of (K := _) rfl) rfl (qi_rng1 (by rfl) T.b_range (qa_cons (qe_int) (qa_nil))) (qg_name (i := 4) (sc__law_numbers).nd rfl (by first | exact Or.inl rfl | exact Or.inr rfl)) (qs_cons (qs_if (t_cmp (c_eq rfl hr) (qe_loc 3) (qe_int)) (qs_one (qs_break)) (qs_nil)) (qs_cons (qs_drop (qe_mt rfl PySem.F.slot_list_append PySem.F.type_list_append mt_append mok_append (qe_loc 1) (qa_cons (q_mod (qe_typ call_int1 ok_fint (by rfl) T.b_int (by decide +kernel) (qa_cons (qe_loc 3) (qa_nil))) (qe_int)) (qa_nil)))) (qs_one (qs_set (q_div (qe_loc 3) (qe_int)) (qg_name (i := 3) (sc__law_numbers).nd rfl (by first | exact Or.inl rfl | exact Or.inr rfl))))))))) (qs_one (qs_for (n := 1000000) (passes_of (K := _) rfl) rfl (qi_rng1 (by rfl) T.b_range (qa_cons (qe_int) (qa_nil))) (qg_name (i := 4) (sc__law_numbers).nd rfl (by first | exact Or.inl rfl | exact Or.inr rfl)) (qs_cons (qs_set (q_mod (qe_typ call_int1 ok_fint (by rfl) T.b_int (by decide +kernel) (qa_cons (q_add rfl (q_add rfl (q_mul rfl (qe_loc 2) (qe_int)) (q_mul rfl (qe_loc 4) (qe_int))) (qe_int)) (qa_nil))) (qe_int)) (qg_name (i := 5) (sc__law_numbers).nd rfl (by first | exact Or.inl rfl | exact Or.inr rfl))) (qs_one (qs_drop (qe_mt rfl PySem.F.slot_list_append PySem.F.type_list_append mt_append mok_append (qe_loc 1) (qa_cons (q_mod (qe_typ call_int1 ok_fint (by rfl) T.b_int (by decide +kernel) (qa_cons (q_add rfl (q_mul rfl (qe_loc 5) (qe_int)) (qe_loc 4)) (qa_nil))) (qe_int)) (qa_nil))))))))))) (qs_cons (qs_if (t_cmp (c_eq rfl hr) (qe_blt call_len (ok_len rfl) (by rfl) T.b_len (by decide +kernel) (qa_cons (qe_loc 1) (qa_nil))) (qe_int)) (qs_one (qs_drop (qe_mt rfl PySem.F.slot_list_append PySem.F.type_list_append mt_append mok_append (qe_loc 1) (qa_cons (qe_int) (qa_nil))))) (qs_nil)) (qs_one (qs_ret (qe_loc 1)))))
abbrev s__law_draw : Stmt := top 49
def F__law_draw : List W → Sto → Res W := defn 4 (sSeq (sIf (bVal (eBin wLt (eLoc 1) (eB fLen (evCons (eLoc 0) (evNil))))) (sRet (eBin wMod (eB fInt (evCons (eBin wIx (eLoc 0) (eLoc 1)) (evNil))) (eLoc 2))) (sNil)) (sSeq (sSet (tgName 3) (eBin wMod (eB fInt (evCons (eBin wAdd (eBin wAdd (eBin wMul (eBin wIx (eLoc 0) (eBin wMod (eB fInt (evCons (eLoc 1) (evNil))) (eB fLen (evCons (eLoc 0) (evNil))))) (eLit (.int 40692))) (eBin wMul (eLoc 1) (eLit (.int 7919)))) (eLit (.int 3))) (evNil))) (eLit (.int 2147483399)))) (sRet (eBin wMod (eB fInt (evCons (eBin wMod (eB fInt (evCons (eBin wAdd (eBin wMul (eLoc 3) (eLit (.int 48271))) (eLoc 1)) (evNil))) (eLit (.int 2147483647))) (evNil))) (eLoc 2)))))
theorem sc__law_draw : FnScope ["row", "at", "limit", "mixed"] ["row", "at", "limit"] (defScope s__law_draw) := ⟨rfl, rfl, rfl, by decide +kernel, rfl, by decide +kernel, by decide +kernel⟩
theorem ok__law_draw {f : Addr} {fd : FuncData} (F : L2.Fun K "_law_draw" "_law_draw" s__law_draw f fd) (T : TX K mg cl ec fld) : FnOk P w K mg base (L2.CX P w) 1 f fd ["row", "at", "limit"] (spF ⟨K, cl, ec, fld⟩ 3 F__law_draw) := by
  refine q_ok F sc__law_draw rfl rfl fun cdv A outer s H E hr => ?_
  have TK := takes_of (X := cxOf (L2.CX P w) P w K mg base ["row", "at", "limit", "mixed"] "_law_draw" (defScope s__law_draw) f cdv A outer s H E) rfl rfl rfl rfl
  exact qs_cons (qs_if (t_cmp c_lt (qe_loc 1) (qe_blt call_len (ok_len rfl) (by rfl) T.b_len (by decide +kernel) (qa_cons (qe_loc 0) (qa_nil)))) (qs_one (qs_ret (q_mod (qe_typ call_int1 ok_fint (by rfl) T.b_int (by decide +kernel) (qa_cons (qe_ix rfl (qe_loc 0) (qe_loc 1)) (qa_nil))) (qe_loc 2)))) (qs_nil)) (qs_cons (qs_set (q_mod (qe_typ call_int1 ok_fint (by rfl) T.b_int (by decide +kernel) (qa_cons (q_add rfl (q_add rfl (q_mul rfl (qe_ix rfl (qe_loc 0) (q_mod (qe_typ call_int1 ok_fint (by rfl) T.b_int (by decide +kernel) (qa_cons (qe_loc 1) (qa_nil))) (qe_blt call_len (ok_len rfl) (by rfl) T.b_len (by decide +kernel) (qa_cons (qe_loc 0) (qa_nil))))) (qe_int)) (q_mul rfl (qe_loc 1) (qe_int))) (qe_int)) (qa_nil))) (qe_int)) (qg_name (i := 3) (sc__law_draw).nd rfl (by first | exact Or.inl rfl | exact Or.inr rfl))) (qs_one (qs_ret (q_mod (qe_typ call_int1 ok_fint (by rfl) T.b_int (by decide +kernel) (qa_cons (q_mod (qe_typ call_int1 ok_fint (by rfl) T.b_int (by decide +kernel) (qa_cons (q_add rfl (q_mul rfl (qe_loc 3) (qe_int)) (qe_loc 1)) (qa_nil))) (qe_int)) (qa_nil))) (qe_loc 2)))))
abbrev s__law_take : Stmt := top 50
def F__law_take : List W → Sto → Res W := defn 3 (sSeq (sIxW (eLoc 1) (eLit (.int 0)) (eBin wAdd (eBin wIx (eLoc 1) (eLit (.int 0))) (eLit (.int 1)))) (sRet (eCall (F__law_draw) [] (evCons (eLoc 0) (evCons (eBin wSub (eBin wIx (eLoc 1) (eLit (.int 0))) (eLit (.int 1))) (evCons (eLoc 2) (evNil)))))))
theorem sc__law_take : FnScope ["row", "spot", "limit"] ["row", "spot", "limit"] (defScope s__law_take) := ⟨rfl, rfl, rfl, by decide +kernel, rfl, by decide +kernel, by decide +kernel⟩
theorem ok__law_take {f : Addr} {fd : FuncData} (F : L2.Fun K "_law_take" "_law_take" s__law_take f fd) (T : TX K mg cl ec fld) (G__law_draw : Fn ⟨K, cl, ec, fld⟩ P w mg base 1 "_law_draw" 3 [] F__law_draw) : FnOk P w K mg base (L2.CX P w) 2 f fd ["row", "spot", "limit"] (spF ⟨K, cl, ec, fld⟩ 3 F__law_take) := by
  refine q_ok F sc__law_take rfl rfl fun cdv A outer s H E hr => ?_
  have TK := takes_of (X := cxOf (L2.CX P w) P w K mg base ["row", "spot", "limit"] "_law_take" (defScope s__law_take) f cdv A outer s H E) rfl rfl rfl rfl
  exact qs_cons (qs_ixw (q_add rfl (qe_ix rfl (qe_loc 1) (qe_int)) (qe_int)) (qe_loc 1) (qe_int)) (qs_one (qs_ret (qe_call1 G__law_draw rfl (hr.mono (by first | exact Nat.le_refl _ | omega)) TK (by rfl) (qa_cons (qe_loc 0) (qa_cons (q_sub (qe_ix rfl (qe_loc 1) (qe_int)) (qe_int)) (qa_cons (qe_loc 2) (qa_nil)))) 3 rfl (evLen_cons (evLen_cons (evLen_cons evLen_nil))))))
abbrev s__law_loose : Stmt := top 51
def F__law_loose : Nat → List W → Sto → Res W
  | 0 => fun _ _ => .err
  | d + 1 => defn 4 (sSeq (sIf (bTru (eIsi ans_tuple (eLoc 0))) (sSeq (sSet (tgName 2) (eComp 1000000 [3] (vSeq (eLoc 0)) (tgName 3) (bYes) (eCall (F__law_loose d) [] (evCons (eLoc 3) (evCons (eBin wAdd (eLoc 1) (eLit (.int 1))) (evNil)))))) (sRet (eIf (bVal (eBin wEq (eBin wMod (eB fInt (evCons (eLoc 1) (evNil))) (eLit (.int 2))) (eLit (.int 0)))) (eLoc 2) (eB fTuple (evCons (eLoc 2) (evNil)))))) (sNil)) (sRet (eLoc 0)))
theorem sc__law_loose : FnScope ["value", "turn", "made", "one"] ["value", "turn"] (defScope s__law_loose) := ⟨rfl, rfl, rfl, by decide +kernel, rfl, by decide +kernel, by decide +kernel⟩
theorem ok__law_loose {f : Addr} {fd : FuncData} (F : L2.Fun K "_law_loose" "_law_loose" s__law_loose f fd) (T : TX K mg cl ec fld) {d : Nat} (G_self : Fn ⟨K, cl, ec, fld⟩ P w mg base (0 + d) "_law_loose" 2 [] (F__law_loose d)) : FnOk P w K mg base (L2.CX P w) (0 + d + 1) f fd ["value", "turn"] (spF ⟨K, cl, ec, fld⟩ 2 (F__law_loose (d + 1))) := by
  refine q_ok F sc__law_loose rfl rfl fun cdv A outer s H E hr => ?_
  have TK := takes_of (X := cxOf (L2.CX P w) P w K mg base ["value", "turn", "made", "one"] "_law_loose" (defScope s__law_loose) f cdv A outer s H E) rfl rfl rfl rfl
  exact qs_cons (qs_if (qt_tru rfl (qe_isi1 (T := .tup) T.ai_tuple rfl (by rfl) T.b_isinstance (qe_loc 0) (pe_bltn (v := .ty "tuple") (by rfl) T.b_tuple (by decide +kernel) rfl) (.ty _) T.an_tuple)) (qs_cons (qs_comp (own := [("one", 3)]) (n := 1000000) (i := 2) rfl (sc__law_loose).nd rfl rfl rfl (qi_seq rfl (qe_loc 0)) (by change BlkOk ["value", "turn", "made", "one"] (defScope s__law_loose) _ _; exact blkOk_by (by decide +kernel)) (fun _ _ _ _ _ => pg_name (i := 3) (sc__law_loose).nd rfl (by first | exact Or.inl rfl | exact Or.inr rfl)) (ct_name (by decide)) (fun _ _ _ _ _ => qc_nil) (fun _ _ _ _ _ => qe_call1 G_self rfl (hr.mono (by omega)) (takesX (CX := L2.CX P w)) (by rfl) (qa_cons (qe_loc 3) (qa_cons (q_add rfl (qe_loc 1) (qe_int)) (qa_nil))) 2 rfl (evLen_cons (evLen_cons evLen_nil)))) (qs_one (qs_ret (qe_if (t_cmp (c_eq rfl hr) (q_mod (qe_typ call_int1 ok_fint (by rfl) T.b_int (by decide +kernel) (qa_cons (qe_loc 1) (qa_nil))) (qe_int)) (qe_int)) (qe_loc 2) (qe_typ call_tuple_of (ok_tuple rfl) (by rfl) T.b_tuple (by decide +kernel) (qa_cons (qe_loc 2) (qa_nil))))))) (qs_nil)) (qs_one (qs_ret (qe_loc 0)))
abbrev s__law_numeric : Stmt := top 52
def F__law_numeric : List W → Sto → Res W := defn 1 (sRet (eAnd (eIsi ans_int (eLoc 0)) (eNot (eIsi ans_bool (eLoc 0)))))
theorem sc__law_numeric : FnScope ["value"] ["value"] (defScope s__law_numeric) := ⟨rfl, rfl, rfl, by decide +kernel, rfl, by decide +kernel, by decide +kernel⟩
theorem ok__law_numeric {f : Addr} {fd : FuncData} (F : L2.Fun K "_law_numeric" "_law_numeric" s__law_numeric f fd) (T : TX K mg cl ec fld) : FnOk P w K mg base (L2.CX P w) 1 f fd ["value"] (spF ⟨K, cl, ec, fld⟩ 1 F__law_numeric) := by
  refine q_ok F sc__law_numeric rfl rfl fun cdv A outer s H E hr => ?_
  have TK := takes_of (X := cxOf (L2.CX P w) P w K mg base ["value"] "_law_numeric" (defScope s__law_numeric) f cdv A outer s H E) rfl rfl rfl rfl
  exact qs_one (qs_ret (qe_and (qe_isi1 (T := .int) T.ai_int rfl (by rfl) T.b_isinstance (qe_loc 0) (pe_bltn (v := .ty "int") (by rfl) T.b_int (by decide +kernel) rfl) (.ty _) T.an_int) (qe_one (qe_not (qe_isi1 (T := .bl) T.ai_bool rfl (by rfl) T.b_isinstance (qe_loc 0) (pe_bltn (v := .ty "bool") (by rfl) T.b_bool (by decide +kernel) rfl) (.ty _) T.an_bool)))))
abbrev s__law_gcd : Stmt := top 53
def F__law_gcd : List W → Sto → Res W := defn 4 (sSeq (sFor 1000000 (vRng1 (evCons (eLit (.int 100000)) (evNil))) (tgName 2) (sSeq (sIf (bVal (eBin wEq (eLoc 1) (eLit (.int 0)))) (sBreak) (sNil)) (sSeq (sSet (tgName 3) (eLoc 0)) (sSeq (sSet (tgName 0) (eLoc 1)) (sSet (tgName 1) (eBin wMod (eLoc 3) (eLoc 1))))))) (sRet (eB fAbs (evCons (eLoc 0) (evNil)))))
theorem sc__law_gcd : FnScope ["first", "second", "k", "keep"] ["first", "second"] (defScope s__law_gcd) := ⟨rfl, rfl, rfl, by decide +kernel, rfl, by decide +kernel, by decide +kernel⟩
theorem ok__law_gcd {f : Addr} {fd : FuncData} (F : L2.Fun K "_law_gcd" "_law_gcd" s__law_gcd f fd) (T : TX K mg cl ec fld) : FnOk P w K mg base (L2.CX P w) 1 f fd ["first", "second"] (spF ⟨K, cl, ec, fld⟩ 2 F__law_gcd) := by
  refine q_ok F sc__law_gcd rfl rfl fun cdv A outer s H E hr => ?_
  have TK := takes_of (X := cxOf (L2.CX P w) P w K mg base ["first", "second", "k", "keep"] "_law_gcd" (defScope s__law_gcd) f cdv A outer s H E) rfl rfl rfl rfl
  exact qs_cons (qs_for (n := 1000000) (passes_of (K := _) rfl) rfl (qi_rng1 (by rfl) T.b_range (qa_cons (qe_int) (qa_nil))) (qg_name (i := 2) (sc__law_gcd).nd rfl (by first | exact Or.inl rfl | exact Or.inr rfl)) (qs_cons (qs_if (t_cmp (c_eq rfl hr) (qe_loc 1) (qe_int)) (qs_one (qs_break)) (qs_nil)) (qs_cons (qs_set (qe_loc 0) (qg_name (i := 3) (sc__law_gcd).nd rfl (by first | exact Or.inl rfl | exact Or.inr rfl))) (qs_cons (qs_set (qe_loc 1) (qg_name (i := 0) (sc__law_gcd).nd rfl (by first | exact Or.inl rfl | exact Or.inr rfl))) (qs_one (qs_set (q_mod (qe_loc 3) (qe_loc 1)) (qg_name (i := 1) (sc__law_gcd).nd rfl (by first | exact Or.inl rfl | exact Or.inr rfl)))))))) (qs_one (qs_ret (qe_blt call_abs ok_abs (by rfl) T.b_abs (by decide +kernel) (qa_cons (qe_loc 0) (qa_nil)))))
abbrev s__law_frac : Stmt := top 54
def F__law_frac : List W → Sto → Res W := defn 3 (sSeq (sIf (bVal (eBin wLt (eLoc 1) (eLit (.int 0)))) (sSeq (sSet (tgName 0) (eU wNeg (eLoc 0))) (sSet (tgName 1) (eU wNeg (eLoc 1)))) (sNil)) (sSeq (sSet (tgName 2) (eCall (F__law_gcd) [] (evCons (eB fAbs (evCons (eLoc 0) (evNil))) (evCons (eLoc 1) (evNil))))) (sRet (eTup (evCons (eBin wDiv (eLoc 0) (eLoc 2)) (evCons (eBin wDiv (eLoc 1) (eLoc 2)) (evNil)))))))
theorem sc__law_frac : FnScope ["top", "bottom", "part"] ["top", "bottom"] (defScope s__law_frac) := ⟨rfl, rfl, rfl, by decide +kernel, rfl, by decide +kernel, by decide +kernel⟩
theorem ok__law_frac {f : Addr} {fd : FuncData} (F : L2.Fun K "_law_frac" "_law_frac" s__law_frac f fd) (T : TX K mg cl ec fld) (G__law_gcd : Fn ⟨K, cl, ec, fld⟩ P w mg base 1 "_law_gcd" 2 [] F__law_gcd) : FnOk P w K mg base (L2.CX P w) 2 f fd ["top", "bottom"] (spF ⟨K, cl, ec, fld⟩ 2 F__law_frac) := by
  refine q_ok F sc__law_frac rfl rfl fun cdv A outer s H E hr => ?_
  have TK := takes_of (X := cxOf (L2.CX P w) P w K mg base ["top", "bottom", "part"] "_law_frac" (defScope s__law_frac) f cdv A outer s H E) rfl rfl rfl rfl
  exact qs_cons (qs_if (t_cmp c_lt (qe_loc 1) (qe_int)) (qs_cons (qs_set (qe_neg (qe_loc 0)) (qg_name (i := 0) (sc__law_frac).nd rfl (by first | exact Or.inl rfl | exact Or.inr rfl))) (qs_one (qs_set (qe_neg (qe_loc 1)) (qg_name (i := 1) (sc__law_frac).nd rfl (by first | exact Or.inl rfl | exact Or.inr rfl))))) (qs_nil)) (qs_cons (qs_set (qe_call1 G__law_gcd rfl (hr.mono (by first | exact Nat.le_refl _ | omega)) TK (by rfl) (qa_cons (qe_blt call_abs ok_abs (by rfl) T.b_abs (by decide +kernel) (qa_cons (qe_loc 0) (qa_nil))) (qa_cons (qe_loc 1) (qa_nil))) 2 rfl (evLen_cons (evLen_cons evLen_nil))) (qg_name (i := 2) (sc__law_frac).nd rfl (by first | exact Or.inl rfl | exact Or.inr rfl))) (qs_one (qs_ret (qe_tup (qa_cons (q_div (qe_loc 0) (qe_loc 2)) (qa_cons (q_div (qe_loc 1) (qe_loc 2)) (qa_nil)))))))
abbrev s__law_plus : Stmt := top 55
def F__law_plus : List W → Sto → Res W := defn 2 (sRet (eCall (F__law_frac) [] (evCons (eBin wAdd (eBin wMul (eBin wIx (eLoc 0) (eLit (.int 0))) (eBin wIx (eLoc 1) (eLit (.int 1)))) (eBin wMul (eBin wIx (eLoc 1) (eLit (.int 0))) (eBin wIx (eLoc 0) (eLit (.int 1))))) (evCons (eBin wMul (eBin wIx (eLoc 0) (eLit (.int 1))) (eBin wIx (eLoc 1) (eLit (.int 1)))) (evNil)))))
theorem sc__law_plus : FnScope ["first", "second"] ["first", "second"] (defScope s__law_plus) := ⟨rfl, rfl, rfl, by decide +kernel, rfl, by decide +kernel, by decide +kernel⟩
theorem ok__law_plus {f : Addr} {fd : FuncData} (F : L2.Fun K "_law_plus" "_law_plus" s__law_plus f fd) (T : TX K mg cl ec fld) (G__law_frac : Fn ⟨K, cl, ec, fld⟩ P w mg base 2 "_law_frac" 2 [] F__law_frac) : FnOk P w K mg base (L2.CX P w) 3 f fd ["first", "second"] (spF ⟨K, cl, ec, fld⟩ 2 F__law_plus) := by
  refine q_ok F sc__law_plus rfl rfl fun cdv A outer s H E hr => ?_
  have TK := takes_of (X := cxOf (L2.CX P w) P w K mg base ["first", "second"] "_law_plus" (defScope s__law_plus) f cdv A outer s H E) rfl rfl rfl rfl
  exact qs_one (qs_ret (qe_call1 G__law_frac rfl (hr.mono (by first | exact Nat.le_refl _ | omega)) TK (by rfl) (qa_cons (q_add rfl (q_mul rfl (qe_ix rfl (qe_loc 0) (qe_int)) (qe_ix rfl (qe_loc 1) (qe_int))) (q_mul rfl (qe_ix rfl (qe_loc 1) (qe_int)) (qe_ix rfl (qe_loc 0) (qe_int)))) (qa_cons (q_mul rfl (qe_ix rfl (qe_loc 0) (qe_int)) (qe_ix rfl (qe_loc 1) (qe_int))) (qa_nil))) 2 rfl (evLen_cons (evLen_cons evLen_nil))))
abbrev s__law_times : Stmt := top 56
def F__law_times : List W → Sto → Res W := defn 2 (sRet (eCall (F__law_frac) [] (evCons (eBin wMul (eBin wIx (eLoc 0) (eLit (.int 0))) (eBin wIx (eLoc 1) (eLit (.int 0)))) (evCons (eBin wMul (eBin wIx (eLoc 0) (eLit (.int 1))) (eBin wIx (eLoc 1) (eLit (.int 1)))) (evNil)))))
theorem sc__law_times : FnScope ["first", "second"] ["first", "second"] (defScope s__law_times) := ⟨rfl, rfl, rfl, by decide +kernel, rfl, by decide +kernel, by decide +kernel⟩
theorem ok__law_times {f : Addr} {fd : FuncData} (F : L2.Fun K "_law_times" "_law_times" s__law_times f fd) (T : TX K mg cl ec fld) (G__law_frac : Fn ⟨K, cl, ec, fld⟩ P w mg base 2 "_law_frac" 2 [] F__law_frac) : FnOk P w K mg base (L2.CX P w) 3 f fd ["first", "second"] (spF ⟨K, cl, ec, fld⟩ 2 F__law_times) := by
  refine q_ok F sc__law_times rfl rfl fun cdv A outer s H E hr => ?_
  have TK := takes_of (X := cxOf (L2.CX P w) P w K mg base ["first", "second"] "_law_times" (defScope s__law_times) f cdv A outer s H E) rfl rfl rfl rfl
  exact qs_one (qs_ret (qe_call1 G__law_frac rfl (hr.mono (by first | exact Nat.le_refl _ | omega)) TK (by rfl) (qa_cons (q_mul rfl (qe_ix rfl (qe_loc 0) (qe_int)) (qe_ix rfl (qe_loc 1) (qe_int))) (qa_cons (q_mul rfl (qe_ix rfl (qe_loc 0) (qe_int)) (qe_ix rfl (qe_loc 1) (qe_int))) (qa_nil))) 2 rfl (evLen_cons (evLen_cons evLen_nil))))
abbrev s__law_minus : Stmt := top 57
def F__law_minus : List W → Sto → Res W := defn 2 (sRet (eCall (F__law_plus) [] (evCons (eLoc 0) (evCons (eTup (evCons (eU wNeg (eBin wIx (eLoc 1) (eLit (.int 0)))) (evCons (eBin wIx (eLoc 1) (eLit (.int 1))) (evNil)))) (evNil)))))
theorem sc__law_minus : FnScope ["first", "second"] ["first", "second"] (defScope s__law_minus) := ⟨rfl, rfl, rfl, by decide +kernel, rfl, by decide +kernel, by decide +kernel⟩
theorem ok__law_minus {f : Addr} {fd : FuncData} (F : L2.Fun K "_law_minus" "_law_minus" s__law_minus f fd) (T : TX K mg cl ec fld) (G__law_plus : Fn ⟨K, cl, ec, fld⟩ P w mg base 3 "_law_plus" 2 [] F__law_plus) : FnOk P w K mg base (L2.CX P w) 4 f fd ["first", "second"] (spF ⟨K, cl, ec, fld⟩ 2 F__law_minus) := by
  refine q_ok F sc__law_minus rfl rfl fun cdv A outer s H E hr => ?_
  have TK := takes_of (X := cxOf (L2.CX P w) P w K mg base ["first", "second"] "_law_minus" (defScope s__law_minus) f cdv A outer s H E) rfl rfl rfl rfl
  exact qs_one (qs_ret (qe_call1 G__law_plus rfl (hr.mono (by first | exact Nat.le_refl _ | omega)) TK (by rfl) (qa_cons (qe_loc 0) (qa_cons (qe_tup (qa_cons (qe_neg (qe_ix rfl (qe_loc 1) (qe_int))) (qa_cons (qe_ix rfl (qe_loc 1) (qe_int)) (qa_nil)))) (qa_nil))) 2 rfl (evLen_cons (evLen_cons evLen_nil))))
abbrev s__law_below : Stmt := top 58
def F__law_below : List W → Sto → Res W := defn 2 (sRet (eBin wLt (eBin wMul (eBin wIx (eLoc 0) (eLit (.int 0))) (eBin wIx (eLoc 1) (eLit (.int 1)))) (eBin wMul (eBin wIx (eLoc 1) (eLit (.int 0))) (eBin wIx (eLoc 0) (eLit (.int 1))))))
theorem sc__law_below : FnScope ["first", "second"] ["first", "second"] (defScope s__law_below) := ⟨rfl, rfl, rfl, by decide +kernel, rfl, by decide +kernel, by decide +kernel⟩
theorem ok__law_below {f : Addr} {fd : FuncData} (F : L2.Fun K "_law_below" "_law_below" s__law_below f fd) (T : TX K mg cl ec fld) : FnOk P w K mg base (L2.CX P w) 1 f fd ["first", "second"] (spF ⟨K, cl, ec, fld⟩ 2 F__law_below) := by
  refine q_ok F sc__law_below rfl rfl fun cdv A outer s H E hr => ?_
  have TK := takes_of (X := cxOf (L2.CX P w) P w K mg base ["first", "second"] "_law_below" (defScope s__law_below) f cdv A outer s H E) rfl rfl rfl rfl
  exact qs_one (qs_ret (q_cmp c_lt (q_mul rfl (qe_ix rfl (qe_loc 0) (qe_int)) (qe_ix rfl (qe_loc 1) (qe_int))) (q_mul rfl (qe_ix rfl (qe_loc 1) (qe_int)) (qe_ix rfl (qe_loc 0) (qe_int)))))
abbrev s__law_pool_fault : Stmt := top 59
def F__law_pool_fault : List W → Sto → Res W := defn 5 (sSeq (sTryM 4 [(cat_BadValue, fun p => .tup [.str "value", p]), (cat_TooMany, fun p => .tup [.str "many", p])] (sIf (bVal (eBin wEq (eLoc 0) (eLit (.int 0)))) (sDrop (eCall (F_payments) [] (evCons (eLoc 1) (evCons (eLoc 2) (evNil))))) (sIf (bVal (eBin wEq (eLoc 0) (eLit (.int 1)))) (sDrop (eCall (F_comes) [] (evCons (eLoc 1) (evCons (eLoc 2) (evNil))))) (sIf (bVal (eBin wEq (eLoc 0) (eLit (.int 2)))) (sDrop (eCall (F_least_stakes) [] (evCons (eLoc 1) (evCons (eLoc 2) (evNil))))) (sIf (bVal (eBin wEq (eLoc 0) (eLit (.int 3)))) (sDrop (eCall (F_spread) [] (evCons (eLoc 1) (evCons (eLoc 2) (evNil))))) (sDrop (eCall (F_pool_gain) [] (evCons (eLoc 1) (evCons (eLoc 2) (evCons (eLoc 3) (evNil))))))))))) (sRet (eLit .non)))
theorem sc__law_pool_fault : FnScope ["kind", "pool", "second", "third", "error"] ["kind", "pool", "second", "third"] (defScope s__law_pool_fault) := ⟨rfl, rfl, rfl, by decide +kernel, rfl, by decide +kernel, by decide +kernel⟩
theorem ok__law_pool_fault {f : Addr} {fd : FuncData} (F : L2.Fun K "_law_pool_fault" "_law_pool_fault" s__law_pool_fault f fd) (T : TX K mg cl ec fld) (G_payments : Fn ⟨K, cl, ec, fld⟩ P w mg base 6 "payments" 2 [] F_payments) (G_comes : Fn ⟨K, cl, ec, fld⟩ P w mg base 7 "comes" 2 [] F_comes) (G_least_stakes : Fn ⟨K, cl, ec, fld⟩ P w mg base 8 "least_stakes" 2 [] F_least_stakes) (G_spread : Fn ⟨K, cl, ec, fld⟩ P w mg base 6 "spread" 2 [] F_spread) (G_pool_gain : Fn ⟨K, cl, ec, fld⟩ P w mg base 7 "pool_gain" 3 [] F_pool_gain) : FnOk P w K mg base (L2.CX P w) 9 f fd ["kind", "pool", "second", "third"] (spF ⟨K, cl, ec, fld⟩ 4 F__law_pool_fault) := by
  refine q_ok F sc__law_pool_fault rfl rfl fun cdv A outer s H E hr => ?_
  have TK := takes_of (X := cxOf (L2.CX P w) P w K mg base ["kind", "pool", "second", "third", "error"] "_law_pool_fault" (defScope s__law_pool_fault) f cdv A outer s H E) rfl rfl rfl rfl
  exact qs_cons (qs_tryM (i := 4) rfl rfl rfl (sc__law_pool_fault).nd rfl rfl TK (.cons (f := "at") ⟨rfl, by decide, Or.inl T.em_BadValue⟩ T.is_BadValue T.it_BadValue (suite_pair rfl) (.cons (f := "word") ⟨rfl, by decide, Or.inl T.em_TooMany⟩ T.is_TooMany T.it_TooMany (suite_pair rfl) .nil)) (fun W pn xe TW HP => qs_one (qs_if (t_cmp (c_eq rfl hr) (qe_loc 0) (qe_int)) (qs_one (qs_drop (qe_call1 G_payments rfl (hr.mono (by first | exact Nat.le_refl _ | omega)) TW (by rfl) (qa_cons (qe_loc 1) (qa_cons (qe_loc 2) (qa_nil))) 2 rfl (evLen_cons (evLen_cons evLen_nil))))) (qs_one (qs_if (t_cmp (c_eq rfl hr) (qe_loc 0) (qe_int)) (qs_one (qs_drop (qe_call1 G_comes rfl (hr.mono (by first | exact Nat.le_refl _ | omega)) TW (by rfl) (qa_cons (qe_loc 1) (qa_cons (qe_loc 2) (qa_nil))) 2 rfl (evLen_cons (evLen_cons evLen_nil))))) (qs_one (qs_if (t_cmp (c_eq rfl hr) (qe_loc 0) (qe_int)) (qs_one (qs_drop (qe_call1 G_least_stakes rfl (hr.mono (by first | exact Nat.le_refl _ | omega)) TW (by rfl) (qa_cons (qe_loc 1) (qa_cons (qe_loc 2) (qa_nil))) 2 rfl (evLen_cons (evLen_cons evLen_nil))))) (qs_one (qs_if (t_cmp (c_eq rfl hr) (qe_loc 0) (qe_int)) (qs_one (qs_drop (qe_call1 G_spread rfl (hr.mono (by first | exact Nat.le_refl _ | omega)) TW (by rfl) (qa_cons (qe_loc 1) (qa_cons (qe_loc 2) (qa_nil))) 2 rfl (evLen_cons (evLen_cons evLen_nil))))) (qs_one (qs_drop (qe_call1 G_pool_gain rfl (hr.mono (by first | exact Nat.le_refl _ | omega)) TW (by rfl) (qa_cons (qe_loc 1) (qa_cons (qe_loc 2) (qa_cons (qe_loc 3) (qa_nil)))) 3 rfl (evLen_cons (evLen_cons (evLen_cons evLen_nil))))))))))))))) (qs_one (qs_ret (qe_non)))
abbrev s__law_pool : Stmt := top 60
def F__law_pool : List W → Sto → Res W := defn 6 (sSeq (sSet (tgName 2) (eBin wAdd (eLit (.int 2)) (eCall (F__law_take) [] (evCons (eLoc 0) (evCons (eLoc 1) (evCons (eLit (.int 990)) (evNil))))))) (sSeq (sSet (tgName 3) (eBin wIx (eLst (evCons (eTup (evCons (eLit (.int 0)) (evCons (eLit (.int 1)) (evNil)))) (evCons (eTup (evCons (eLit (.int 1)) (evCons (eLit (.int 10)) (evNil)))) (evCons (eTup (evCons (eLit (.int 1)) (evCons (eLit (.int 3)) (evNil)))) (evCons (eCall (F__law_frac) [] (evCons (eCall (F__law_take) [] (evCons (eLoc 0) (evCons (eLoc 1) (evCons (eLit (.int 99)) (evNil))))) (evCons (eLit (.int 100)) (evNil)))) (evCons (eCall (F__law_frac) [] (evCons (eCall (F__law_take) [] (evCons (eLoc 0) (evCons (eLoc 1) (evCons (eLoc 2) (evNil))))) (evCons (eLoc 2) (evNil)))) (evNil))))))) (eCall (F__law_take) [] (evCons (eLoc 0) (evCons (eLoc 1) (evCons (eLit (.int 5)) (evNil))))))) (sSeq (sSet (tgName 4) (eBin wAdd (eLit (.int 1)) (eCall (F__law_take) [] (evCons (eLoc 0) (evCons (eLoc 1) (evCons (eLit (.int 100)) (evNil))))))) (sSeq (sSet (tgName 5) (eBin wIx (eLst (evCons (eTup (evCons (eLit (.int 1)) (evCons (eLit (.int 10)) (evNil)))) (evCons (eTup (evCons (eLit (.int 1)) (evCons (eLit (.int 100)) (evNil)))) (evCons (eTup (evCons (eLit (.int 1)) (evCons (eLit (.int 20)) (evNil)))) (evCons (eTup (evCons (eLit (.int 1)) (evCons (eLit (.int 1)) (evNil)))) (evCons (eCall (F__law_frac) [] (evCons (eBin wAdd (eLit (.int 1)) (eCall (F__law_take) [] (evCons (eLoc 0) (evCons (eLoc 1) (evCons (eLit (.int 7)) (evNil)))))) (evCons (eLit (.int 8)) (evNil)))) (evCons (eCall (F__law_frac) [] (evCons (eBin wAdd (eLit (.int 1)) (eCall (F__law_take) [] (evCons (eLoc 0) (evCons (eLoc 1) (evCons (eLoc 4) (evNil)))))) (evCons (eLoc 4) (evNil)))) (evNil)))))))) (eCall (F__law_take) [] (evCons (eLoc 0) (evCons (eLoc 1) (evCons (eLit (.int 6)) (evNil))))))) (sRet (eTup (evCons (eLoc 3) (evCons (eLoc 5) (evCons (eBin wAdd (eLit (.int 1)) (eCall (F__law_take) [] (evCons (eLoc 0) (evCons (eLoc 1) (evCons (eLit (.int 4)) (evNil)))))) (evNil))))))))))
theorem sc__law_pool : FnScope ["row", "spot", "wide", "kept", "many", "step"] ["row", "spot"] (defScope s__law_pool) := ⟨rfl, rfl, rfl, by decide +kernel, rfl, by decide +kernel, by decide +kernel⟩
theorem ok__law_pool {f : Addr} {fd : FuncData} (F : L2.Fun K "_law_pool" "_law_pool" s__law_pool f fd) (T : TX K mg cl ec fld) (G__law_take : Fn ⟨K, cl, ec, fld⟩ P w mg base 2 "_law_take" 3 [] F__law_take) (G__law_frac : Fn ⟨K, cl, ec, fld⟩ P w mg base 2 "_law_frac" 2 [] F__law_frac) : FnOk P w K mg base (L2.CX P w) 3 f fd ["row", "spot"] (spF ⟨K, cl, ec, fld⟩ 2 F__law_pool) := by
  refine q_ok F sc__law_pool rfl rfl fun cdv A outer s H E hr => ?_
  have TK := takes_of (X := cxOf (L2.CX P w) P w K mg base ["row", "spot", "wide", "kept", "many", "step"] "_law_pool" (defScope s__law_pool) f cdv A outer s H E) rfl rfl rfl rfl
  exact qs_cons (qs_set (q_add rfl (qe_int) (qe_call1 G__law_take rfl (hr.mono (by first | exact Nat.le_refl _ | omega)) TK (by rfl) (qa_cons (qe_loc 0) (qa_cons (qe_loc 1) (qa_cons (qe_int) (qa_nil)))) 3 rfl (evLen_cons (evLen_cons (evLen_cons evLen_nil))))) (qg_name (i := 2) (sc__law_pool).nd rfl (by first | exact Or.inl rfl | exact Or.inr rfl))) (qs_cons (qs_set (qe_ix rfl (qe_lst (qa_cons (qe_tup (qa_cons (qe_int) (qa_cons (qe_int) (qa_nil)))) (qa_cons (qe_tup (qa_cons (qe_int) (qa_cons (qe_int) (qa_nil)))) (qa_cons (qe_tup (qa_cons (qe_int) (qa_cons (qe_int) (qa_nil)))) (qa_cons (qe_call1 G__law_frac rfl (hr.mono (by first | exact Nat.le_refl _ | omega)) TK (by rfl) (qa_cons (qe_call1 G__law_take rfl (hr.mono (by first | exact Nat.le_refl _ | omega)) TK (by rfl) (qa_cons (qe_loc 0) (qa_cons (qe_loc 1) (qa_cons (qe_int) (qa_nil)))) 3 rfl (evLen_cons (evLen_cons (evLen_cons evLen_nil)))) (qa_cons (qe_int) (qa_nil))) 2 rfl (evLen_cons (evLen_cons evLen_nil))) (qa_cons (qe_call1 G__law_frac rfl (hr.mono (by first | exact Nat.le_refl _ | omega)) TK (by rfl) (qa_cons (qe_call1 G__law_take rfl (hr.mono (by first | exact Nat.le_refl _ | omega)) TK (by rfl) (qa_cons (qe_loc 0) (qa_cons (qe_loc 1) (qa_cons (qe_loc 2) (qa_nil)))) 3 rfl (evLen_cons (evLen_cons (evLen_cons evLen_nil)))) (qa_cons (qe_loc 2) (qa_nil))) 2 rfl (evLen_cons (evLen_cons evLen_nil))) (qa_nil))))))) (qe_call1 G__law_take rfl (hr.mono (by first | exact Nat.le_refl _ | omega)) TK (by rfl) (qa_cons (qe_loc 0) (qa_cons (qe_loc 1) (qa_cons (qe_int) (qa_nil)))) 3 rfl (evLen_cons (evLen_cons (evLen_cons evLen_nil))))) (qg_name (i := 3) (sc__law_pool).nd rfl (by first | exact Or.inl rfl | exact Or.inr rfl))) (qs_cons (qs_set (q_add rfl (qe_int) (qe_call1 G__law_take rfl (hr.mono (by first | exact Nat.le_refl _ | omega)) TK (by rfl) (qa_cons (qe_loc 0) (qa_cons (qe_loc 1) (qa_cons (qe_int) (qa_nil)))) 3 rfl (evLen_cons (evLen_cons (evLen_cons evLen_nil))))) (qg_name (i := 4) (sc__law_pool).nd rfl (by first | exact Or.inl rfl | exact Or.inr rfl))) (qs_cons (qs_set (qe_ix rfl (qe_lst (qa_cons (qe_tup (qa_cons (qe_int) (qa_cons (qe_int) (qa_nil)))) (qa_cons (qe_tup (qa_cons (qe_int) (qa_cons (qe_int) (qa_nil)))) (qa_cons (qe_tup (qa_cons (qe_int) (qa_cons (qe_int) (qa_nil)))) (qa_cons (qe_tup (qa_cons (qe_int) (qa_cons (qe_int) (qa_nil)))) (qa_cons (qe_call1 G__law_frac rfl (hr.mono (by first | exact Nat.le_refl _ | omega)) TK (by rfl) (qa_cons (q_add rfl (qe_int) (qe_call1 G__law_take rfl (hr.mono (by first | exact Nat.le_refl _ | omega)) TK (by rfl) (qa_cons (qe_loc 0) (qa_cons (qe_loc 1) (qa_cons (qe_int) (qa_nil)))) 3 rfl (evLen_cons (evLen_cons (evLen_cons evLen_nil))))) (qa_cons (qe_int) (qa_nil))) 2 rfl (evLen_cons (evLen_cons evLen_nil))) (qa_cons (qe_call1 G__law_frac rfl (hr.mono (by first | exact Nat.le_refl _ | omega)) TK (by rfl) (qa_cons (q_add rfl (qe_int) (qe_call1 G__law_take rfl (hr.mono (by first | exact Nat.le_refl _ | omega)) TK (by rfl) (qa_cons (qe_loc 0) (qa_cons (qe_loc 1) (qa_cons (qe_loc 4) (qa_nil)))) 3 rfl (evLen_cons (evLen_cons (evLen_cons evLen_nil))))) (qa_cons (qe_loc 4) (qa_nil))) 2 rfl (evLen_cons (evLen_cons evLen_nil))) (qa_nil)))))))) (qe_call1 G__law_take rfl (hr.mono (by first | exact Nat.le_refl _ | omega)) TK (by rfl) (qa_cons (qe_loc 0) (qa_cons (qe_loc 1) (qa_cons (qe_int) (qa_nil)))) 3 rfl (evLen_cons (evLen_cons (evLen_cons evLen_nil))))) (qg_name (i := 5) (sc__law_pool).nd rfl (by first | exact Or.inl rfl | exact Or.inr rfl))) (qs_one (qs_ret (qe_tup (qa_cons (qe_loc 3) (qa_cons (qe_loc 5) (qa_cons (q_add rfl (qe_int) (qe_call1 G__law_take rfl (hr.mono (by first | exact Nat.le_refl _ | omega)) TK (by rfl) (qa_cons (qe_loc 0) (qa_cons (qe_loc 1) (qa_cons (qe_int) (qa_nil)))) 3 rfl (evLen_cons (evLen_cons (evLen_cons evLen_nil))))) (qa_nil))))))))))
abbrev s__law_pool_stakes : Stmt := top 61
def F__law_pool_stakes : List W → Sto → Res W := defn 6 (sSeq (sSet (tgName 4) (eComp 1000000 [5] (vRng1 (evCons (eBin wIx (eLoc 2) (eLit (.int 2))) (evNil))) (tgName 5) (bYes) (eIf (bVal (eBin wGt (eCall (F__law_take) [] (evCons (eLoc 0) (evCons (eLoc 1) (evCons (eLit (.int 6)) (evNil))))) (eLit (.int 0)))) (eCall (F__law_take) [] (evCons (eLoc 0) (evCons (eLoc 1) (evCons (eLoc 3) (evNil))))) (eLit (.int 0))))) (sSeq (sIf (bVal (eBin wEq (eB fSumS (evCons (eLoc 4) (evNil))) (eLit (.int 0)))) (sIxW (eLoc 4) (eCall (F__law_take) [] (evCons (eLoc 0) (evCons (eLoc 1) (evCons (eBin wIx (eLoc 2) (eLit (.int 2))) (evNil))))) (eBin wAdd (eLit (.int 1)) (eCall (F__law_take) [] (evCons (eLoc 0) (evCons (eLoc 1) (evCons (eLoc 3) (evNil))))))) (sNil)) (sRet (eB fTuple (evCons (eLoc 4) (evNil))))))
theorem sc__law_pool_stakes : FnScope ["row", "spot", "pool", "wide", "made", "k"] ["row", "spot", "pool", "wide"] (defScope s__law_pool_stakes) := ⟨rfl, rfl, rfl, by decide +kernel, rfl, by decide +kernel, by decide +kernel⟩
theorem ok__law_pool_stakes {f : Addr} {fd : FuncData} (F : L2.Fun K "_law_pool_stakes" "_law_pool_stakes" s__law_pool_stakes f fd) (T : TX K mg cl ec fld) (G__law_take : Fn ⟨K, cl, ec, fld⟩ P w mg base 2 "_law_take" 3 [] F__law_take) : FnOk P w K mg base (L2.CX P w) 3 f fd ["row", "spot", "pool", "wide"] (spF ⟨K, cl, ec, fld⟩ 4 F__law_pool_stakes) := by
  refine q_ok F sc__law_pool_stakes rfl rfl fun cdv A outer s H E hr => ?_
  have TK := takes_of (X := cxOf (L2.CX P w) P w K mg base ["row", "spot", "pool", "wide", "made", "k"] "_law_pool_stakes" (defScope s__law_pool_stakes) f cdv A outer s H E) rfl rfl rfl rfl
  exact qs_cons (qs_comp (own := [("k", 5)]) (n := 1000000) (i := 4) rfl (sc__law_pool_stakes).nd rfl rfl rfl (qi_rng1 (by rfl) T.b_range (qa_cons (qe_ix rfl (qe_loc 2) (qe_int)) (qa_nil))) (by change BlkOk ["row", "spot", "pool", "wide", "made", "k"] (defScope s__law_pool_stakes) _ _; exact blkOk_by (by decide +kernel)) (fun _ _ _ _ _ => pg_name (i := 5) (sc__law_pool_stakes).nd rfl (by first | exact Or.inl rfl | exact Or.inr rfl)) (ct_name (by decide)) (fun _ _ _ _ _ => qc_nil) (fun _ _ _ _ _ => qe_if (t_cmp c_gt (qe_call1 G__law_take rfl (hr.mono (by first | exact Nat.le_refl _ | omega)) (takesX (CX := L2.CX P w)) (by rfl) (qa_cons (qe_loc 0) (qa_cons (qe_loc 1) (qa_cons (qe_int) (qa_nil)))) 3 rfl (evLen_cons (evLen_cons (evLen_cons evLen_nil)))) (qe_int)) (qe_call1 G__law_take rfl (hr.mono (by first | exact Nat.le_refl _ | omega)) (takesX (CX := L2.CX P w)) (by rfl) (qa_cons (qe_loc 0) (qa_cons (qe_loc 1) (qa_cons (qe_loc 3) (qa_nil)))) 3 rfl (evLen_cons (evLen_cons (evLen_cons evLen_nil)))) (qe_int))) (qs_cons (qs_if (t_cmp (c_eq rfl hr) (qe_blt (cr_sumT rfl) (ok_sumS rfl) (by rfl) T.b_sum (by decide +kernel) (qa_cons (qe_loc 4) (qa_nil))) (qe_int)) (qs_one (qs_ixw (q_add rfl (qe_int) (qe_call1 G__law_take rfl (hr.mono (by first | exact Nat.le_refl _ | omega)) TK (by rfl) (qa_cons (qe_loc 0) (qa_cons (qe_loc 1) (qa_cons (qe_loc 3) (qa_nil)))) 3 rfl (evLen_cons (evLen_cons (evLen_cons evLen_nil))))) (qe_loc 4) (qe_call1 G__law_take rfl (hr.mono (by first | exact Nat.le_refl _ | omega)) TK (by rfl) (qa_cons (qe_loc 0) (qa_cons (qe_loc 1) (qa_cons (qe_ix rfl (qe_loc 2) (qe_int)) (qa_nil)))) 3 rfl (evLen_cons (evLen_cons (evLen_cons evLen_nil)))))) (qs_nil)) (qs_one (qs_ret (qe_typ call_tuple_of (ok_tuple rfl) (by rfl) T.b_tuple (by decide +kernel) (qa_cons (qe_loc 4) (qa_nil))))))
abbrev s__law_payments : Stmt := top 62
def F__law_payments : List W → Sto → Res W := defn 7 (sSeq (sSet (tgName 2) (eCall (F__law_times) [] (evCons (eCall (F__law_minus) [] (evCons (eTup (evCons (eLit (.int 1)) (evCons (eLit (.int 1)) (evNil)))) (evCons (eBin wIx (eLoc 0) (eLit (.int 0))) (evNil)))) (evCons (eTup (evCons (eB fSumS (evCons (eLoc 1) (evNil))) (evCons (eLit (.int 1)) (evNil)))) (evNil))))) (sSeq (sSet (tgName 3) (eLst (evNil))) (sSeq (sFor 1000000 (vSeq (eLoc 1)) (tgName 4) (sIf (bVal (eBin wEq (eLoc 4) (eLit (.int 0)))) (sDrop (eMt fAppend (eLoc 3) (evCons (eLit .non) (evNil)))) (sSeq (sSet (tgName 5) (eCall (F__law_frac) [] (evCons (eBin wIx (eLoc 2) (eLit (.int 0))) (evCons (eBin wMul (eBin wIx (eLoc 2) (eLit (.int 1))) (eLoc 4)) (evNil))))) (sSeq (sSet (tgName 6) (eBin wDiv (eBin wMul (eBin wIx (eLoc 5) (eLit (.int 0))) (eBin wIx (eBin wIx (eLoc 0) (eLit (.int 1))) (eLit (.int 1)))) (eBin wMul (eBin wIx (eLoc 5) (eLit (.int 1))) (eBin wIx (eBin wIx (eLoc 0) (eLit (.int 1))) (eLit (.int 0)))))) (sDrop (eMt fAppend (eLoc 3) (evCons (eCall (F__law_frac) [] (evCons (eBin wMul (eLoc 6) (eBin wIx (eBin wIx (eLoc 0) (eLit (.int 1))) (eLit (.int 0)))) (evCons (eBin wIx (eBin wIx (eLoc 0) (eLit (.int 1))) (eLit (.int 1))) (evNil)))) (evNil)))))))) (sRet (eB fTuple (evCons (eLoc 3) (evNil)))))))
theorem sc__law_payments : FnScope ["pool", "stakes", "whole", "made", "one", "each", "steps"] ["pool", "stakes"] (defScope s__law_payments) := ⟨rfl, rfl, rfl, by decide +kernel, rfl, by decide +kernel, by decide +kernel⟩
theorem ok__law_payments {f : Addr} {fd : FuncData} (F : L2.Fun K "_law_payments" "_law_payments" s__law_payments f fd) (T : TX K mg cl ec fld) (G__law_times : Fn ⟨K, cl, ec, fld⟩ P w mg base 3 "_law_times" 2 [] F__law_times) (G__law_minus : Fn ⟨K, cl, ec, fld⟩ P w mg base 4 "_law_minus" 2 [] F__law_minus) (G__law_frac : Fn ⟨K, cl, ec, fld⟩ P w mg base 2 "_law_frac" 2 [] F__law_frac) : FnOk P w K mg base (L2.CX P w) 5 f fd ["pool", "stakes"] (spF ⟨K, cl, ec, fld⟩ 2 F__law_payments) := by
  refine q_ok F sc__law_payments rfl rfl fun cdv A outer s H E hr => ?_
  have TK := takes_of (X := cxOf (L2.CX P w) P w K mg base ["pool", "stakes", "whole", "made", "one", "each", "steps"] "_law_payments" (defScope s__law_payments) f cdv A outer s H E) rfl rfl rfl rfl
  exact qs_cons (qs_set (qe_call1 G__law_times rfl (hr.mono (by first | exact Nat.le_refl _ | omega)) TK (by rfl) (qa_cons (qe_call1 G__law_minus rfl (hr.mono (by first | exact Nat.le_refl _ | omega)) TK (by rfl) (qa_cons (qe_tup (qa_cons (qe_int) (qa_cons (qe_int) (qa_nil)))) (qa_cons (qe_ix rfl (qe_loc 0) (qe_int)) (qa_nil))) 2 rfl (evLen_cons (evLen_cons evLen_nil))) (qa_cons (qe_tup (qa_cons (qe_blt (cr_sumT rfl) (ok_sumS rfl) (by rfl) T.b_sum (by decide +kernel) (qa_cons (qe_loc 1) (qa_nil))) (qa_cons (qe_int) (qa_nil)))) (qa_nil))) 2 rfl (evLen_cons (evLen_cons evLen_nil))) (qg_name (i := 2) (sc__law_payments).nd rfl (by first | exact Or.inl rfl | exact Or.inr rfl))) (qs_cons (qs_set (qe_lst (qa_nil)) (qg_name (i := 3) (sc__law_payments).nd rfl (by first | exact Or.inl rfl | exact Or.inr rfl))) (qs_cons (qs_for (n := 1000000) (passes_of (K := _) rfl) rfl (qi_seq rfl (qe_loc 1)) (qg_name (i := 4) (sc__law_payments).nd rfl (by first | exact Or.inl rfl | exact Or.inr rfl)) (qs_one (qs_if (t_cmp (c_eq rfl hr) (qe_loc 4) (qe_int)) (qs_one (qs_drop (qe_mt rfl PySem.F.slot_list_append PySem.F.type_list_append mt_append mok_append (qe_loc 3) (qa_cons (qe_non) (qa_nil))))) (qs_cons (qs_set (qe_call1 G__law_frac rfl (hr.mono (by first | exact Nat.le_refl _ | omega)) TK (by rfl) (qa_cons (qe_ix rfl (qe_loc 2) (qe_int)) (qa_cons (q_mul rfl (qe_ix rfl (qe_loc 2) (qe_int)) (qe_loc 4)) (qa_nil))) 2 rfl (evLen_cons (evLen_cons evLen_nil))) (qg_name (i := 5) (sc__law_payments).nd rfl (by first | exact Or.inl rfl | exact Or.inr rfl))) (qs_cons (qs_set (q_div (q_mul rfl (qe_ix rfl (qe_loc 5) (qe_int)) (qe_ix rfl (qe_ix rfl (qe_loc 0) (qe_int)) (qe_int))) (q_mul rfl (qe_ix rfl (qe_loc 5) (qe_int)) (qe_ix rfl (qe_ix rfl (qe_loc 0) (qe_int)) (qe_int)))) (qg_name (i := 6) (sc__law_payments).nd rfl (by first | exact Or.inl rfl | exact Or.inr rfl))) (qs_one (qs_drop (qe_mt rfl PySem.F.slot_list_append PySem.F.type_list_append mt_append mok_append (qe_loc 3) (qa_cons (qe_call1 G__law_frac rfl (hr.mono (by first | exact Nat.le_refl _ | omega)) TK (by rfl) (qa_cons (q_mul rfl (qe_loc 6) (qe_ix rfl (qe_ix rfl (qe_loc 0) (qe_int)) (qe_int))) (qa_cons (qe_ix rfl (qe_ix rfl (qe_loc 0) (qe_int)) (qe_int)) (qa_nil))) 2 rfl (evLen_cons (evLen_cons evLen_nil))) (qa_nil)))))))))) (qs_one (qs_ret (qe_typ call_tuple_of (ok_tuple rfl) (by rfl) T.b_tuple (by decide +kernel) (qa_cons (qe_loc 3) (qa_nil)))))))
abbrev s__law_spread : Stmt := top 63
def F__law_spread : List W → Sto → Res W := defn 8 (sSeq (sSet (tgName 2) (eCall (F__law_minus) [] (evCons (eTup (evCons (eLit (.int 1)) (evCons (eLit (.int 1)) (evNil)))) (evCons (eBin wIx (eLoc 0) (eLit (.int 0))) (evNil))))) (sSeq (sSet (tgName 3) (eTup (evCons (eLit (.int 0)) (evCons (eLit (.int 1)) (evNil))))) (sSeq (sSet (tgName 4) (eTup (evCons (eLit (.int 0)) (evCons (eLit (.int 1)) (evNil))))) (sSeq (sFor 1000000 (vSeq (eLoc 1)) (tgName 5) (sIf (bVal (eBin wNotN (eLoc 5) (eLit .non))) (sSeq (sSet (tgName 6) (eCall (F__law_plus) [] (evCons (eLoc 5) (evCons (eBin wIx (eLoc 0) (eLit (.int 1))) (evNil))))) (sSeq (sSet (tgName 3) (eCall (F__law_plus) [] (evCons (eLoc 3) (evCons (eCall (F__law_frac) [] (evCons (eBin wMul (eBin wIx (eLoc 2) (eLit (.int 0))) (eBin wIx (eLoc 6) (eLit (.int 1)))) (evCons (eBin wMul (eBin wIx (eLoc 2) (eLit (.int 1))) (eBin wIx (eLoc 6) (eLit (.int 0)))) (evNil)))) (evNil))))) (sSeq (sSet (tgName 7) (eTup (evCons (eLit (.int 1)) (evCons (eLit (.int 1)) (evNil))))) (sSeq (sIf (bVal (eBin wGt (eBin wIx (eLoc 5) (eLit (.int 0))) (eLit (.int 0)))) (sSet (tgName 7) (eCall (F__law_frac) [] (evCons (eBin wMul (eBin wIx (eLoc 2) (eLit (.int 0))) (eBin wIx (eLoc 5) (eLit (.int 1)))) (evCons (eBin wMul (eBin wIx (eLoc 2) (eLit (.int 1))) (eBin wIx (eLoc 5) (eLit (.int 0)))) (evNil))))) (sNil)) (sSet (tgName 4) (eCall (F__law_plus) [] (evCons (eLoc 4) (evCons (eIf (bTru (eCall (F__law_below) [] (evCons (eTup (evCons (eLit (.int 1)) (evCons (eLit (.int 1)) (evNil)))) (evCons (eLoc 7) (evNil))))) (eTup (evCons (eLit (.int 1)) (evCons (eLit (.int 1)) (evNil)))) (eLoc 7)) (evNil))))))))) (sNil))) (sRet (eTup (evCons (eLoc 3) (evCons (eLoc 4) (evNil)))))))))
theorem sc__law_spread : FnScope ["pool", "wanted", "rest", "lows", "highs", "one", "next_one", "high"] ["pool", "wanted"] (defScope s__law_spread) := ⟨rfl, rfl, rfl, by decide +kernel, rfl, by decide +kernel, by decide +kernel⟩
theorem ok__law_spread {f : Addr} {fd : FuncData} (F : L2.Fun K "_law_spread" "_law_spread" s__law_spread f fd) (T : TX K mg cl ec fld) (G__law_minus : Fn ⟨K, cl, ec, fld⟩ P w mg base 4 "_law_minus" 2 [] F__law_minus) (G__law_plus : Fn ⟨K, cl, ec, fld⟩ P w mg base 3 "_law_plus" 2 [] F__law_plus) (G__law_frac : Fn ⟨K, cl, ec, fld⟩ P w mg base 2 "_law_frac" 2 [] F__law_frac) (G__law_below : Fn ⟨K, cl, ec, fld⟩ P w mg base 1 "_law_below" 2 [] F__law_below) : FnOk P w K mg base (L2.CX P w) 5 f fd ["pool", "wanted"] (spF ⟨K, cl, ec, fld⟩ 2 F__law_spread) := by
  refine q_ok F sc__law_spread rfl rfl fun cdv A outer s H E hr => ?_
  have TK := takes_of (X := cxOf (L2.CX P w) P w K mg base ["pool", "wanted", "rest", "lows", "highs", "one", "next_one", "high"] "_law_spread" (defScope s__law_spread) f cdv A outer s H E) rfl rfl rfl rfl
  exact qs_cons (qs_set (qe_call1 G__law_minus rfl (hr.mono (by first | exact Nat.le_refl _ | omega)) TK (by rfl) (qa_cons (qe_tup (qa_cons (qe_int) (qa_cons (qe_int) (qa_nil)))) (qa_cons (qe_ix rfl (qe_loc 0) (qe_int)) (qa_nil))) 2 rfl (evLen_cons (evLen_cons evLen_nil))) (qg_name (i := 2) (sc__law_spread).nd rfl (by first | exact Or.inl rfl | exact Or.inr rfl))) (qs_cons (qs_set (qe_tup (qa_cons (qe_int) (qa_cons (qe_int) (qa_nil)))) (qg_name (i := 3) (sc__law_spread).nd rfl (by first | exact Or.inl rfl | exact Or.inr rfl))) (qs_cons (qs_set (qe_tup (qa_cons (qe_int) (qa_cons (qe_int) (qa_nil)))) (qg_name (i := 4) (sc__law_spread).nd rfl (by first | exact Or.inl rfl | exact Or.inr rfl))) (qs_cons (qs_for (n := 1000000) (passes_of (K := _) rfl) rfl (qi_seq rfl (qe_loc 1)) (qg_name (i := 5) (sc__law_spread).nd rfl (by first | exact Or.inl rfl | exact Or.inr rfl)) (qs_one (qs_if (t_cmp c_isNot (qe_loc 5) (qe_non)) (qs_cons (qs_set (qe_call1 G__law_plus rfl (hr.mono (by first | exact Nat.le_refl _ | omega)) TK (by rfl) (qa_cons (qe_loc 5) (qa_cons (qe_ix rfl (qe_loc 0) (qe_int)) (qa_nil))) 2 rfl (evLen_cons (evLen_cons evLen_nil))) (qg_name (i := 6) (sc__law_spread).nd rfl (by first | exact Or.inl rfl | exact Or.inr rfl))) (qs_cons (qs_set (qe_call1 G__law_plus rfl (hr.mono (by first | exact Nat.le_refl _ | omega)) TK (by rfl) (qa_cons (qe_loc 3) (qa_cons (qe_call1 G__law_frac rfl (hr.mono (by first | exact Nat.le_refl _ | omega)) TK (by rfl) (qa_cons (q_mul rfl (qe_ix rfl (qe_loc 2) (qe_int)) (qe_ix rfl (qe_loc 6) (qe_int))) (qa_cons (q_mul rfl (qe_ix rfl (qe_loc 2) (qe_int)) (qe_ix rfl (qe_loc 6) (qe_int))) (qa_nil))) 2 rfl (evLen_cons (evLen_cons evLen_nil))) (qa_nil))) 2 rfl (evLen_cons (evLen_cons evLen_nil))) (qg_name (i := 3) (sc__law_spread).nd rfl (by first | exact Or.inl rfl | exact Or.inr rfl))) (qs_cons (qs_set (qe_tup (qa_cons (qe_int) (qa_cons (qe_int) (qa_nil)))) (qg_name (i := 7) (sc__law_spread).nd rfl (by first | exact Or.inl rfl | exact Or.inr rfl))) (qs_cons (qs_if (t_cmp c_gt (qe_ix rfl (qe_loc 5) (qe_int)) (qe_int)) (qs_one (qs_set (qe_call1 G__law_frac rfl (hr.mono (by first | exact Nat.le_refl _ | omega)) TK (by rfl) (qa_cons (q_mul rfl (qe_ix rfl (qe_loc 2) (qe_int)) (qe_ix rfl (qe_loc 5) (qe_int))) (qa_cons (q_mul rfl (qe_ix rfl (qe_loc 2) (qe_int)) (qe_ix rfl (qe_loc 5) (qe_int))) (qa_nil))) 2 rfl (evLen_cons (evLen_cons evLen_nil))) (qg_name (i := 7) (sc__law_spread).nd rfl (by first | exact Or.inl rfl | exact Or.inr rfl)))) (qs_nil)) (qs_one (qs_set (qe_call1 G__law_plus rfl (hr.mono (by first | exact Nat.le_refl _ | omega)) TK (by rfl) (qa_cons (qe_loc 4) (qa_cons (qe_if (qt_tru rfl (qe_call1 G__law_below rfl (hr.mono (by first | exact Nat.le_refl _ | omega)) TK (by rfl) (qa_cons (qe_tup (qa_cons (qe_int) (qa_cons (qe_int) (qa_nil)))) (qa_cons (qe_loc 7) (qa_nil))) 2 rfl (evLen_cons (evLen_cons evLen_nil)))) (qe_tup (qa_cons (qe_int) (qa_cons (qe_int) (qa_nil)))) (qe_loc 7)) (qa_nil))) 2 rfl (evLen_cons (evLen_cons evLen_nil))) (qg_name (i := 4) (sc__law_spread).nd rfl (by first | exact Or.inl rfl | exact Or.inr rfl)))))))) (qs_nil)))) (qs_one (qs_ret (qe_tup (qa_cons (qe_loc 3) (qa_cons (qe_loc 4) (qa_nil)))))))))
abbrev s__law_comes : Stmt := top 64
def F__law_comes : List W → Sto → Res W := defn 3 (sSeq (sSet (tgName 2) (eCall (F__law_spread) [] (evCons (eLoc 0) (evCons (eLoc 1) (evNil))))) (sRet (eAnd (eCall (F__law_below) [] (evCons (eBin wIx (eLoc 2) (eLit (.int 0))) (evCons (eTup (evCons (eLit (.int 1)) (evCons (eLit (.int 1)) (evNil)))) (evNil)))) (eNot (eCall (F__law_below) [] (evCons (eBin wIx (eLoc 2) (eLit (.int 1))) (evCons (eTup (evCons (eLit (.int 1)) (evCons (eLit (.int 1)) (evNil)))) (evNil))))))))
theorem sc__law_comes : FnScope ["pool", "wanted", "both"] ["pool", "wanted"] (defScope s__law_comes) := ⟨rfl, rfl, rfl, by decide +kernel, rfl, by decide +kernel, by decide +kernel⟩
theorem ok__law_comes {f : Addr} {fd : FuncData} (F : L2.Fun K "_law_comes" "_law_comes" s__law_comes f fd) (T : TX K mg cl ec fld) (G__law_spread : Fn ⟨K, cl, ec, fld⟩ P w mg base 5 "_law_spread" 2 [] F__law_spread) (G__law_below : Fn ⟨K, cl, ec, fld⟩ P w mg base 1 "_law_below" 2 [] F__law_below) : FnOk P w K mg base (L2.CX P w) 6 f fd ["pool", "wanted"] (spF ⟨K, cl, ec, fld⟩ 2 F__law_comes) := by
  refine q_ok F sc__law_comes rfl rfl fun cdv A outer s H E hr => ?_
  have TK := takes_of (X := cxOf (L2.CX P w) P w K mg base ["pool", "wanted", "both"] "_law_comes" (defScope s__law_comes) f cdv A outer s H E) rfl rfl rfl rfl
  exact qs_cons (qs_set (qe_call1 G__law_spread rfl (hr.mono (by first | exact Nat.le_refl _ | omega)) TK (by rfl) (qa_cons (qe_loc 0) (qa_cons (qe_loc 1) (qa_nil))) 2 rfl (evLen_cons (evLen_cons evLen_nil))) (qg_name (i := 2) (sc__law_comes).nd rfl (by first | exact Or.inl rfl | exact Or.inr rfl))) (qs_one (qs_ret (qe_and (qe_call1 G__law_below rfl (hr.mono (by first | exact Nat.le_refl _ | omega)) TK (by rfl) (qa_cons (qe_ix rfl (qe_loc 2) (qe_int)) (qa_cons (qe_tup (qa_cons (qe_int) (qa_cons (qe_int) (qa_nil)))) (qa_nil))) 2 rfl (evLen_cons (evLen_cons evLen_nil))) (qe_one (qe_not (qe_call1 G__law_below rfl (hr.mono (by first | exact Nat.le_refl _ | omega)) TK (by rfl) (qa_cons (qe_ix rfl (qe_loc 2) (qe_int)) (qa_cons (qe_tup (qa_cons (qe_int) (qa_cons (qe_int) (qa_nil)))) (qa_nil))) 2 rfl (evLen_cons (evLen_cons evLen_nil))))))))
abbrev s__law_bounds : Stmt := top 65
def F__law_bounds : List W → Sto → Res W := defn 7 (sSeq (sSet (tgName 3) (eCall (F__law_minus) [] (evCons (eTup (evCons (eLit (.int 1)) (evCons (eLit (.int 1)) (evNil)))) (evCons (eBin wIx (eLoc 0) (eLit (.int 0))) (evNil))))) (sSeq (sSet (tgName 4) (eCall (F__law_plus) [] (evCons (eLoc 1) (evCons (eBin wIx (eLoc 0) (eLit (.int 1))) (evNil))))) (sSeq (sSet (tgName 5) (eBin wAdd (eBin wDiv (eBin wMul (eBin wMul (eBin wIx (eLoc 3) (eLit (.int 0))) (eBin wIx (eLoc 4) (eLit (.int 1)))) (eLoc 2)) (eBin wMul (eBin wIx (eLoc 3) (eLit (.int 1))) (eBin wIx (eLoc 4) (eLit (.int 0))))) (eLit (.int 1)))) (sSeq (sSet (tgName 6) (eLoc 2)) (sSeq (sIf (bVal (eBin wGt (eBin wIx (eLoc 1) (eLit (.int 0))) (eLit (.int 0)))) (sSet (tgName 6) (eB fMin2 (evCons (eLoc 2) (evCons (eBin wDiv (eBin wMul (eBin wMul (eBin wIx (eLoc 3) (eLit (.int 0))) (eBin wIx (eLoc 1) (eLit (.int 1)))) (eLoc 2)) (eBin wMul (eBin wIx (eLoc 3) (eLit (.int 1))) (eBin wIx (eLoc 1) (eLit (.int 0))))) (evNil))))) (sNil)) (sRet (eTup (evCons (eLoc 5) (evCons (eLoc 6) (evNil))))))))))
theorem sc__law_bounds : FnScope ["pool", "one", "total_v", "rest", "up", "least", "most"] ["pool", "one", "total_v"] (defScope s__law_bounds) := ⟨rfl, rfl, rfl, by decide +kernel, rfl, by decide +kernel, by decide +kernel⟩
theorem ok__law_bounds {f : Addr} {fd : FuncData} (F : L2.Fun K "_law_bounds" "_law_bounds" s__law_bounds f fd) (T : TX K mg cl ec fld) (G__law_minus : Fn ⟨K, cl, ec, fld⟩ P w mg base 4 "_law_minus" 2 [] F__law_minus) (G__law_plus : Fn ⟨K, cl, ec, fld⟩ P w mg base 3 "_law_plus" 2 [] F__law_plus) : FnOk P w K mg base (L2.CX P w) 5 f fd ["pool", "one", "total_v"] (spF ⟨K, cl, ec, fld⟩ 3 F__law_bounds) := by
  refine q_ok F sc__law_bounds rfl rfl fun cdv A outer s H E hr => ?_
  have TK := takes_of (X := cxOf (L2.CX P w) P w K mg base ["pool", "one", "total_v", "rest", "up", "least", "most"] "_law_bounds" (defScope s__law_bounds) f cdv A outer s H E) rfl rfl rfl rfl
  exact qs_cons (qs_set (qe_call1 G__law_minus rfl (hr.mono (by first | exact Nat.le_refl _ | omega)) TK (by rfl) (qa_cons (qe_tup (qa_cons (qe_int) (qa_cons (qe_int) (qa_nil)))) (qa_cons (qe_ix rfl (qe_loc 0) (qe_int)) (qa_nil))) 2 rfl (evLen_cons (evLen_cons evLen_nil))) (qg_name (i := 3) (sc__law_bounds).nd rfl (by first | exact Or.inl rfl | exact Or.inr rfl))) (qs_cons (qs_set (qe_call1 G__law_plus rfl (hr.mono (by first | exact Nat.le_refl _ | omega)) TK (by rfl) (qa_cons (qe_loc 1) (qa_cons (qe_ix rfl (qe_loc 0) (qe_int)) (qa_nil))) 2 rfl (evLen_cons (evLen_cons evLen_nil))) (qg_name (i := 4) (sc__law_bounds).nd rfl (by first | exact Or.inl rfl | exact Or.inr rfl))) (qs_cons (qs_set (q_add rfl (q_div (q_mul rfl (q_mul rfl (qe_ix rfl (qe_loc 3) (qe_int)) (qe_ix rfl (qe_loc 4) (qe_int))) (qe_loc 2)) (q_mul rfl (qe_ix rfl (qe_loc 3) (qe_int)) (qe_ix rfl (qe_loc 4) (qe_int)))) (qe_int)) (qg_name (i := 5) (sc__law_bounds).nd rfl (by first | exact Or.inl rfl | exact Or.inr rfl))) (qs_cons (qs_set (qe_loc 2) (qg_name (i := 6) (sc__law_bounds).nd rfl (by first | exact Or.inl rfl | exact Or.inr rfl))) (qs_cons (qs_if (t_cmp c_gt (qe_ix rfl (qe_loc 1) (qe_int)) (qe_int)) (qs_one (qs_set (qe_blt (call_min2 rfl) ok_min2 (by rfl) T.b_min (by decide +kernel) (qa_cons (qe_loc 2) (qa_cons (q_div (q_mul rfl (q_mul rfl (qe_ix rfl (qe_loc 3) (qe_int)) (qe_ix rfl (qe_loc 1) (qe_int))) (qe_loc 2)) (q_mul rfl (qe_ix rfl (qe_loc 3) (qe_int)) (qe_ix rfl (qe_loc 1) (qe_int)))) (qa_nil)))) (qg_name (i := 6) (sc__law_bounds).nd rfl (by first | exact Or.inl rfl | exact Or.inr rfl)))) (qs_nil)) (qs_one (qs_ret (qe_tup (qa_cons (qe_loc 5) (qa_cons (qe_loc 6) (qa_nil))))))))))
abbrev s__law_least_sum : Stmt := top 66
def F__law_least_sum : List W → Sto → Res W := defn 9 (sSeq (sFor 1000000 (vRng2 (evCons (eLit (.int 1)) (evCons (eBin wAdd (eLoc 2) (eLit (.int 1))) (evNil)))) (tgName 3) (sSeq (sSet (tgName 4) (eLit (.int 0))) (sSeq (sSet (tgName 5) (eLit (.int 0))) (sSeq (sSet (tgName 6) (eLit (.bl true))) (sSeq (sFor 1000000 (vSeq (eLoc 1)) (tgName 7) (sIf (bVal (eBin wNotN (eLoc 7) (eLit .non))) (sSeq (sSet (tgName 8) (eCall (F__law_bounds) [] (evCons (eLoc 0) (evCons (eLoc 7) (evCons (eLoc 3) (evNil)))))) (sSeq (sSet (tgName 4) (eBin wAdd (eLoc 4) (eBin wIx (eLoc 8) (eLit (.int 0))))) (sSeq (sSet (tgName 5) (eBin wAdd (eLoc 5) (eBin wIx (eLoc 8) (eLit (.int 1))))) (sIf (bVal (eBin wGt (eBin wIx (eLoc 8) (eLit (.int 0))) (eBin wIx (eLoc 8) (eLit (.int 1))))) (sSet (tgName 6) (eLit (.bl false))) (sNil))))) (sNil))) (sIf (bAnd (bTru (eLoc 6)) (bVal (eChain wLe wLe (eLoc 4) (eLoc 3) (eLoc 5)))) (sRet (eLoc 3)) (sNil))))))) (sRet (eLit .non)))
theorem sc__law_least_sum : FnScope ["pool", "wanted", "most", "total_v", "low", "high", "fine", "one", "both"] ["pool", "wanted", "most"] (defScope s__law_least_sum) := ⟨rfl, rfl, rfl, by decide +kernel, rfl, by decide +kernel, by decide +kernel⟩
theorem ok__law_least_sum {f : Addr} {fd : FuncData} (F : L2.Fun K "_law_least_sum" "_law_least_sum" s__law_least_sum f fd) (T : TX K mg cl ec fld) (G__law_bounds : Fn ⟨K, cl, ec, fld⟩ P w mg base 5 "_law_bounds" 3 [] F__law_bounds) : FnOk P w K mg base (L2.CX P w) 6 f fd ["pool", "wanted", "most"] (spF ⟨K, cl, ec, fld⟩ 3 F__law_least_sum) := by
  refine q_ok F sc__law_least_sum rfl rfl fun cdv A outer s H E hr => ?_
  have TK := takes_of (X := cxOf (L2.CX P w) P w K mg base ["pool", "wanted", "most", "total_v", "low", "high", "fine", "one", "both"] "_law_least_sum" (defScope s__law_least_sum) f cdv A outer s H E) rfl rfl rfl rfl
  exact qs_cons (qs_for (n := 1000000) (passes_of (K := _) rfl) rfl (qi_rng2 (by rfl) T.b_range (qa_cons (qe_int) (qa_cons (q_add rfl (qe_loc 2) (qe_int)) (qa_nil)))) (qg_name (i := 3) (sc__law_least_sum).nd rfl (by first | exact Or.inl rfl | exact Or.inr rfl)) (qs_cons (qs_set (qe_int) (qg_name (i := 4) (sc__law_least_sum).nd rfl (by first | exact Or.inl rfl | exact Or.inr rfl))) (qs_cons (qs_set (qe_int) (qg_name (i := 5) (sc__law_least_sum).nd rfl (by first | exact Or.inl rfl | exact Or.inr rfl))) (qs_cons (qs_set (qe_bl) (qg_name (i := 6) (sc__law_least_sum).nd rfl (by first | exact Or.inl rfl | exact Or.inr rfl))) (qs_cons (qs_for (n := 1000000) (passes_of (K := _) rfl) rfl (qi_seq rfl (qe_loc 1)) (qg_name (i := 7) (sc__law_least_sum).nd rfl (by first | exact Or.inl rfl | exact Or.inr rfl)) (qs_one (qs_if (t_cmp c_isNot (qe_loc 7) (qe_non)) (qs_cons (qs_set (qe_call1 G__law_bounds rfl (hr.mono (by first | exact Nat.le_refl _ | omega)) TK (by rfl) (qa_cons (qe_loc 0) (qa_cons (qe_loc 7) (qa_cons (qe_loc 3) (qa_nil)))) 3 rfl (evLen_cons (evLen_cons (evLen_cons evLen_nil)))) (qg_name (i := 8) (sc__law_least_sum).nd rfl (by first | exact Or.inl rfl | exact Or.inr rfl))) (qs_cons (qs_set (q_add rfl (qe_loc 4) (qe_ix rfl (qe_loc 8) (qe_int))) (qg_name (i := 4) (sc__law_least_sum).nd rfl (by first | exact Or.inl rfl | exact Or.inr rfl))) (qs_cons (qs_set (q_add rfl (qe_loc 5) (qe_ix rfl (qe_loc 8) (qe_int))) (qg_name (i := 5) (sc__law_least_sum).nd rfl (by first | exact Or.inl rfl | exact Or.inr rfl))) (qs_one (qs_if (t_cmp c_gt (qe_ix rfl (qe_loc 8) (qe_int)) (qe_ix rfl (qe_loc 8) (qe_int))) (qs_one (qs_set (qe_bl) (qg_name (i := 6) (sc__law_least_sum).nd rfl (by first | exact Or.inl rfl | exact Or.inr rfl)))) (qs_nil)))))) (qs_nil)))) (qs_one (qs_if (qw_pt (qw_and (qt_tru rfl (qe_loc 6)) (qw_and1 (t_chain c_le c_le (qe_loc 4) (qe_loc 3) (qe_loc 5))))) (qs_one (qs_ret (qe_loc 3))) (qs_nil)))))))) (qs_one (qs_ret (qe_non)))
abbrev s__law_first_stakes : Stmt := top 67
def F__law_first_stakes : List W → Sto → Res W := defn 10 (sSeq (sSet (tgName 3) (eComp 1000000 [8] (vSeq (eLoc 1)) (tgName 8) (bYes) (eIf (bVal (eBin wIsN (eLoc 8) (eLit .non))) (eTup (evCons (eLit (.int 0)) (evCons (eLit (.int 0)) (evNil)))) (eCall (F__law_bounds) [] (evCons (eLoc 0) (evCons (eLoc 8) (evCons (eLoc 2) (evNil)))))))) (sSeq (sSet (tgName 4) (eLst (evNil))) (sSeq (sFor 1000000 (vRng1 (evCons (eB fLen (evCons (eLoc 1) (evNil))) (evNil))) (tgName 5) (sSeq (sSet (tgName 6) (eBin wSub (eLoc 2) (eB fSumS (evCons (eLoc 4) (evNil))))) (sSeq (sSet (tgName 7) (eB fSumS (evCons (eComp 1000000 [9] (vSeq (eSl (eLoc 3) (poSome (eBin wAdd (eLoc 5) (eLit (.int 1)))) (poNone))) (tgName 9) (bYes) (eBin wIx (eLoc 9) (eLit (.int 1)))) (evNil)))) (sDrop (eMt fAppend (eLoc 4) (evCons (eB fMax2 (evCons (eBin wIx (eBin wIx (eLoc 3) (eLoc 5)) (eLit (.int 0))) (evCons (eBin wSub (eLoc 6) (eLoc 7)) (evNil)))) (evNil))))))) (sRet (eB fTuple (evCons (eLoc 4) (evNil)))))))
theorem sc__law_first_stakes : FnScope ["pool", "wanted", "total_v", "bounds", "made", "k", "rest", "later", "one", "both"] ["pool", "wanted", "total_v"] (defScope s__law_first_stakes) := ⟨rfl, rfl, rfl, by decide +kernel, rfl, by decide +kernel, by decide +kernel⟩
theorem ok__law_first_stakes {f : Addr} {fd : FuncData} (F : L2.Fun K "_law_first_stakes" "_law_first_stakes" s__law_first_stakes f fd) (T : TX K mg cl ec fld) (G__law_bounds : Fn ⟨K, cl, ec, fld⟩ P w mg base 5 "_law_bounds" 3 [] F__law_bounds) : FnOk P w K mg base (L2.CX P w) 6 f fd ["pool", "wanted", "total_v"] (spF ⟨K, cl, ec, fld⟩ 3 F__law_first_stakes) := by
  refine q_ok F sc__law_first_stakes rfl rfl fun cdv A outer s H E hr => ?_
  have TK := takes_of (X := cxOf (L2.CX P w) P w K mg base ["pool", "wanted", "total_v", "bounds", "made", "k", "rest", "later", "one", "both"] "_law_first_stakes" (defScope s__law_first_stakes) f cdv A outer s H E) rfl rfl rfl rfl
  exact qs_cons (qs_comp (own := [("one", 8)]) (n := 1000000) (i := 3) rfl (sc__law_first_stakes).nd rfl rfl rfl (qi_seq rfl (qe_loc 1)) (by change BlkOk ["pool", "wanted", "total_v", "bounds", "made", "k", "rest", "later", "one", "both"] (defScope s__law_first_stakes) _ _; exact blkOk_by (by decide +kernel)) (fun _ _ _ _ _ => pg_name (i := 8) (sc__law_first_stakes).nd rfl (by first | exact Or.inl rfl | exact Or.inr rfl)) (ct_name (by decide)) (fun _ _ _ _ _ => qc_nil) (fun _ _ _ _ _ => qe_if (t_cmp c_is (qe_loc 8) (qe_non)) (qe_tup (qa_cons (qe_int) (qa_cons (qe_int) (qa_nil)))) (qe_call1 G__law_bounds rfl (hr.mono (by first | exact Nat.le_refl _ | omega)) (takesX (CX := L2.CX P w)) (by rfl) (qa_cons (qe_loc 0) (qa_cons (qe_loc 8) (qa_cons (qe_loc 2) (qa_nil)))) 3 rfl (evLen_cons (evLen_cons (evLen_cons evLen_nil)))))) (qs_cons (qs_set (qe_lst (qa_nil)) (qg_name (i := 4) (sc__law_first_stakes).nd rfl (by first | exact Or.inl rfl | exact Or.inr rfl))) (qs_cons (qs_for (n := 1000000) (passes_of (K := _) rfl) rfl (qi_rng1 (by rfl) T.b_range (qa_cons (qe_blt call_len (ok_len rfl) (by rfl) T.b_len (by decide +kernel) (qa_cons (qe_loc 1) (qa_nil))) (qa_nil))) (qg_name (i := 5) (sc__law_first_stakes).nd rfl (by first | exact Or.inl rfl | exact Or.inr rfl)) (qs_cons (qs_set (q_sub (qe_loc 2) (qe_blt (cr_sumT rfl) (ok_sumS rfl) (by rfl) T.b_sum (by decide +kernel) (qa_cons (qe_loc 4) (qa_nil)))) (qg_name (i := 6) (sc__law_first_stakes).nd rfl (by first | exact Or.inl rfl | exact Or.inr rfl))) (qs_cons (qs_set (qe_blt (cr_sumT rfl) (ok_sumS rfl) (by rfl) T.b_sum (by decide +kernel) (qa_cons (qe_comp (own := [("both", 9)]) (n := 1000000) rfl (sc__law_first_stakes).nd (qi_seq rfl (qe_sl rfl (qe_loc 3) (qo_some (q_add rfl (qe_loc 5) (qe_int))) (qo_none))) (by change BlkOk ["pool", "wanted", "total_v", "bounds", "made", "k", "rest", "later", "one", "both"] (defScope s__law_first_stakes) _ _; exact blkOk_by (by decide +kernel)) (fun _ _ _ _ _ => pg_name (i := 9) (sc__law_first_stakes).nd rfl (by first | exact Or.inl rfl | exact Or.inr rfl)) (ct_name (by decide)) (fun _ _ _ _ _ => qc_nil) (fun _ _ _ _ _ => qe_ix rfl (qe_loc 9) (qe_int))) (qa_nil))) (qg_name (i := 7) (sc__law_first_stakes).nd rfl (by first | exact Or.inl rfl | exact Or.inr rfl))) (qs_one (qs_drop (qe_mt rfl PySem.F.slot_list_append PySem.F.type_list_append mt_append mok_append (qe_loc 4) (qa_cons (qe_blt (call_max2 rfl) ok_max2 (by rfl) T.b_max (by decide +kernel) (qa_cons (qe_ix rfl (qe_ix rfl (qe_loc 3) (qe_loc 5)) (qe_int)) (qa_cons (q_sub (qe_loc 6) (qe_loc 7)) (qa_nil)))) (qa_nil)))))))) (qs_one (qs_ret (qe_typ call_tuple_of (ok_tuple rfl) (by rfl) T.b_tuple (by decide +kernel) (qa_cons (qe_loc 4) (qa_nil)))))))
abbrev s_law : Stmt := top 68
def F_law : List W → Sto → Res W := defn 13 (sSeq (sSet (tgName 1) (eCall (F__law_numbers) [] (evCons (eLoc 0) (evNil)))) (sSeq (sSet (tgName 2) (eLst (evCons (eLit (.int 0)) (evNil)))) (sSeq (sSet (tgName 3) (eCall (F__law_pool) [] (evCons (eLoc 1) (evCons (eLoc 2) (evNil))))) (sSeq (sSet (tgName 4) (eB fList (evCons (eCall (F__law_payments) [] (evCons (eLoc 3) (evCons (eCall (F__law_pool_stakes) [] (evCons (eLoc 1) (evCons (eLoc 2) (evCons (eLoc 3) (evCons (eBin wIx (eLst (evCons (eLit (.int 6)) (evCons (eLit (.int 40)) (evCons (eLit (.int 300)) (evNil))))) (eCall (F__law_take) [] (evCons (eLoc 1) (evCons (eLoc 2) (evCons (eLit (.int 3)) (evNil)))))) (evNil)))))) (evNil)))) (evNil)))) (sSeq (sSet (tgName 5) (eCall (F__law_take) [] (evCons (eLoc 1) (evCons (eLoc 2) (evCons (eLit (.int 4)) (evNil)))))) (sSeq (sIf (bVal (eBin wGt (eLoc 5) (eLit (.int 0)))) (sSeq (sSet (tgName 6) (eCall (F__law_take) [] (evCons (eLoc 1) (evCons (eLoc 2) (evCons (eBin wIx (eLoc 3) (eLit (.int 2))) (evNil)))))) (sSeq (sSet (tgName 7) (eBin wSub (eCall (F__law_take) [] (evCons (eLoc 1) (evCons (eLoc 2) (evCons (eLit (.int 5)) (evNil))))) (eLit (.int 2)))) (sIf (bVal (eBin wNotN (eBin wIx (eLoc 4) (eLoc 6)) (eLit .non))) (sSeq (sSet (tgName 8) (eCall (F__law_plus) [] (evCons (eBin wIx (eLoc 4) (eLoc 6)) (evCons (eCall (F__law_times) [] (evCons (eBin wIx (eLoc 3) (eLit (.int 1))) (evCons (eTup (evCons (eLoc 7) (evCons (eLit (.int 1)) (evNil)))) (evNil)))) (evNil))))) (sIxW (eLoc 4) (eLoc 6) (eIf (bVal (eBin wGe (eBin wIx (eLoc 8) (eLit (.int 0))) (eLit (.int 0)))) (eLoc 8) (eTup (evCons (eLit (.int 0)) (evCons (eLit (.int 1)) (evNil))))))) (sIf (bVal (eBin wEq (eLoc 5) (eLit (.int 2)))) (sIxW (eLoc 4) (eLoc 6) (eCall (F__law_times) [] (evCons (eBin wIx (eLoc 3) (eLit (.int 1))) (evCons (eTup (evCons (eCall (F__law_take) [] (evCons (eLoc 1) (evCons (eLoc 2) (evCons (eLit (.int 60)) (evNil))))) (evCons (eLit (.int 1)) (evNil)))) (evNil))))) (sNil))))) (sNil)) (sSeq (sSet (tgName 4) (eB fTuple (evCons (eLoc 4) (evNil)))) (sSeq (sSet (tgName 9) (eCall (F__law_comes) [] (evCons (eLoc 3) (evCons (eLoc 4) (evNil))))) (sSeq (sIf (bOr (bNot (bTru (eCall (F__law_so 6) [] (evCons (eCall (F_comes) [] (evCons (eLoc 3) (evCons (eLoc 4) (evNil)))) (evCons (eLoc 9) (evNil)))))) (bNot (bTru (eCall (F__law_so 6) [] (evCons (eCall (F_spread) [] (evCons (eLoc 3) (evCons (eLoc 4) (evNil)))) (evCons (eCall (F__law_spread) [] (evCons (eLoc 3) (evCons (eLoc 4) (evNil)))) (evNil))))))) (sRet (eLit (.bl false))) (sNil)) (sSeq (sSet (tgName 10) (eIf (bTru (eLoc 9)) (eCall (F__law_least_sum) [] (evCons (eLoc 3) (evCons (eLoc 4) (evCons (eLit (.int 5000)) (evNil))))) (eLit .non))) (sSeq (sIf (bAnd (bTru (eLoc 9)) (bVal (eBin wIsN (eLoc 10) (eLit .non)))) (sRet (eBin wEq (eCall (F__law_pool_fault) [] (evCons (eLit (.int 2)) (evCons (eLoc 3) (evCons (eLoc 4) (evCons (eLit (.int 0)) (evNil)))))) (eTup (evCons (eLit (.str "many")) (evCons (eLit (.str "stakes")) (evNil)))))) (sNil)) (sSeq (sSet (tgName 11) (eCall (F_least_stakes) [] (evCons (eLoc 3) (evCons (eCall (F__law_loose 6) [] (evCons (eLoc 4) (evCons (eCall (F__law_take) [] (evCons (eLoc 1) (evCons (eLoc 2) (evCons (eLit (.int 2)) (evNil))))) (evNil)))) (evNil))))) (sSeq (sIf (bNot (bTru (eLoc 9))) (sRet (eBin wIsN (eLoc 11) (eLit .non))) (sNil)) (sSeq (sIf (bOr (bNot (bTru (eIsi ans_tuple (eLoc 11)))) (bVal (eBin wNe (eB fLen (evCons (eLoc 11) (evNil))) (eBin wIx (eLoc 3) (eLit (.int 2)))))) (sRet (eLit (.bl false))) (sNil)) (sSeq (sFor 1000000 (vSeq (eLoc 11)) (tgName 12) (sIf (bOr (bNot (bTru (eCall (F__law_numeric) [] (evCons (eLoc 12) (evNil))))) (bVal (eBin wLt (eLoc 12) (eLit (.int 0))))) (sRet (eLit (.bl false))) (sNil))) (sRet (eAnd (eCall (F__law_so 6) [] (evCons (eLoc 11) (evCons (eCall (F__law_first_stakes) [] (evCons (eLoc 3) (evCons (eLoc 4) (evCons (eLoc 10) (evNil))))) (evNil)))) (eBin wEq (eCall (F__law_payments) [] (evCons (eLoc 3) (evCons (eLoc 11) (evNil)))) (eLoc 4)))))))))))))))))))
theorem sc_law : FnScope ["script", "row", "spot", "pool", "wanted", "style", "at", "move", "news", "fine", "least", "told", "one"] ["script"] (defScope s_law) := ⟨rfl, rfl, rfl, by decide +kernel, rfl, by decide +kernel, by decide +kernel⟩
theorem ok_law {f : Addr} {fd : FuncData} (F : L2.Fun K "law" "law" s_law f fd) (T : TX K mg cl ec fld) (G__law_numbers : Fn ⟨K, cl, ec, fld⟩ P w mg base 1 "_law_numbers" 1 [] F__law_numbers) (G__law_pool : Fn ⟨K, cl, ec, fld⟩ P w mg base 3 "_law_pool" 2 [] F__law_pool) (G__law_take : Fn ⟨K, cl, ec, fld⟩ P w mg base 2 "_law_take" 3 [] F__law_take) (G__law_comes : Fn ⟨K, cl, ec, fld⟩ P w mg base 6 "_law_comes" 2 [] F__law_comes) (G_least_stakes : Fn ⟨K, cl, ec, fld⟩ P w mg base 8 "least_stakes" 2 [] F_least_stakes) (G__law_payments : Fn ⟨K, cl, ec, fld⟩ P w mg base 5 "_law_payments" 2 [] F__law_payments) (G__law_least_sum : Fn ⟨K, cl, ec, fld⟩ P w mg base 6 "_law_least_sum" 3 [] F__law_least_sum) (G__law_loose : Fn ⟨K, cl, ec, fld⟩ P w mg base 6 "_law_loose" 2 [] (F__law_loose 6)) (G__law_so : Fn ⟨K, cl, ec, fld⟩ P w mg base 6 "_law_so" 2 [] (F__law_so 6)) (G__law_pool_stakes : Fn ⟨K, cl, ec, fld⟩ P w mg base 3 "_law_pool_stakes" 4 [] F__law_pool_stakes) (G__law_plus : Fn ⟨K, cl, ec, fld⟩ P w mg base 3 "_law_plus" 2 [] F__law_plus) (G__law_pool_fault : Fn ⟨K, cl, ec, fld⟩ P w mg base 9 "_law_pool_fault" 4 [] F__law_pool_fault) (G__law_first_stakes : Fn ⟨K, cl, ec, fld⟩ P w mg base 6 "_law_first_stakes" 3 [] F__law_first_stakes) (G__law_times : Fn ⟨K, cl, ec, fld⟩ P w mg base 3 "_law_times" 2 [] F__law_times) (G_comes : Fn ⟨K, cl, ec, fld⟩ P w mg base 7 "comes" 2 [] F_comes) (G_spread : Fn ⟨K, cl, ec, fld⟩ P w mg base 6 "spread" 2 [] F_spread) (G__law_spread : Fn ⟨K, cl, ec, fld⟩ P w mg base 5 "_law_spread" 2 [] F__law_spread) (G__law_numeric : Fn ⟨K, cl, ec, fld⟩ P w mg base 1 "_law_numeric" 1 [] F__law_numeric) : FnOk P w K mg base (L2.CX P w) 10 f fd ["script"] (spF ⟨K, cl, ec, fld⟩ 1 F_law) := by
  refine q_ok F sc_law rfl rfl fun cdv A outer s H E hr => ?_
  have TK := takes_of (X := cxOf (L2.CX P w) P w K mg base ["script", "row", "spot", "pool", "wanted", "style", "at", "move", "news", "fine", "least", "told", "one"] "law" (defScope s_law) f cdv A outer s H E) rfl rfl rfl rfl
  exact qs_cons (qs_set (qe_call1 G__law_numbers rfl (hr.mono (by first | exact Nat.le_refl _ | omega)) TK (by rfl) (qa_cons (qe_loc 0) (qa_nil)) 1 rfl (evLen_cons evLen_nil)) (qg_name (i := 1) (sc_law).nd rfl (by first | exact Or.inl rfl | exact Or.inr rfl))) (qs_cons (qs_set (qe_lst (qa_cons (qe_int) (qa_nil))) (qg_name (i := 2) (sc_law).nd rfl (by first | exact Or.inl rfl | exact Or.inr rfl))) (qs_cons (qs_set (qe_call1 G__law_pool rfl (hr.mono (by first | exact Nat.le_refl _ | omega)) TK (by rfl) (qa_cons (qe_loc 1) (qa_cons (qe_loc 2) (qa_nil))) 2 rfl (evLen_cons (evLen_cons evLen_nil))) (qg_name (i := 3) (sc_law).nd rfl (by first | exact Or.inl rfl | exact Or.inr rfl))) (qs_cons (qs_set (qe_typ call_list_of (ok_list rfl) (by rfl) T.b_list (by decide +kernel) (qa_cons (qe_call1 G__law_payments rfl (hr.mono (by first | exact Nat.le_refl _ | omega)) TK (by rfl) (qa_cons (qe_loc 3) (qa_cons (qe_call1 G__law_pool_stakes rfl (hr.mono (by first | exact Nat.le_refl _ | omega)) TK (by rfl) (qa_cons (qe_loc 1) (qa_cons (qe_loc 2) (qa_cons (qe_loc 3) (qa_cons (qe_ix rfl (qe_lst (qa_cons (qe_int) (qa_cons (qe_int) (qa_cons (qe_int) (qa_nil))))) (qe_call1 G__law_take rfl (hr.mono (by first | exact Nat.le_refl _ | omega)) TK (by rfl) (qa_cons (qe_loc 1) (qa_cons (qe_loc 2) (qa_cons (qe_int) (qa_nil)))) 3 rfl (evLen_cons (evLen_cons (evLen_cons evLen_nil))))) (qa_nil))))) 4 rfl (evLen_cons (evLen_cons (evLen_cons (evLen_cons evLen_nil))))) (qa_nil))) 2 rfl (evLen_cons (evLen_cons evLen_nil))) (qa_nil))) (qg_name (i := 4) (sc_law).nd rfl (by first | exact Or.inl rfl | exact Or.inr rfl))) (qs_cons (qs_set (qe_call1 G__law_take rfl (hr.mono (by first | exact Nat.le_refl _ | omega)) TK (by rfl) (qa_cons (qe_loc 1) (qa_cons (qe_loc 2) (qa_cons (qe_int) (qa_nil)))) 3 rfl (evLen_cons (evLen_cons (evLen_cons evLen_nil)))) (qg_name (i := 5) (sc_law).nd rfl (by first | exact Or.inl rfl | exact Or.inr rfl))) (qs_cons (qs_if (t_cmp c_gt (qe_loc 5) (qe_int)) (qs_cons (qs_set (qe_call1 G__law_take rfl (hr.mono (by first | exact Nat.le_refl _ | omega)) TK (by rfl) (qa_cons (qe_loc 1) (qa_cons (qe_loc 2) (qa_cons (qe_ix rfl (qe_loc 3) (qe_int)) (qa_nil)))) 3 rfl (evLen_cons (evLen_cons (evLen_cons evLen_nil)))) (qg_name (i := 6) (sc_law).nd rfl (by first | exact Or.inl rfl | exact Or.inr rfl))) (qs_cons (qs_set (q_sub (qe_call1 G__law_take rfl (hr.mono (by first | exact Nat.le_refl _ | omega)) TK (by rfl) (qa_cons (qe_loc 1) (qa_cons (qe_loc 2) (qa_cons (qe_int) (qa_nil)))) 3 rfl (evLen_cons (evLen_cons (evLen_cons evLen_nil)))) (qe_int)) (qg_name (i := 7) (sc_law).nd rfl (by first | exact Or.inl rfl | exact Or.inr rfl))) (qs_one (qs_if (t_cmp c_isNot (qe_ix rfl (qe_loc 4) (qe_loc 6)) (qe_non)) (qs_cons (qs_set (qe_call1 G__law_plus rfl (hr.mono (by first | exact Nat.le_refl _ | omega)) TK (by rfl) (qa_cons (qe_ix rfl (qe_loc 4) (qe_loc 6)) (qa_cons (qe_call1 G__law_times rfl (hr.mono (by first | exact Nat.le_refl _ | omega)) TK (by rfl) (qa_cons (qe_ix rfl (qe_loc 3) (qe_int)) (qa_cons (qe_tup (qa_cons (qe_loc 7) (qa_cons (qe_int) (qa_nil)))) (qa_nil))) 2 rfl (evLen_cons (evLen_cons evLen_nil))) (qa_nil))) 2 rfl (evLen_cons (evLen_cons evLen_nil))) (qg_name (i := 8) (sc_law).nd rfl (by first | exact Or.inl rfl | exact Or.inr rfl))) (qs_one (qs_ixw (qe_if (t_cmp c_ge (qe_ix rfl (qe_loc 8) (qe_int)) (qe_int)) (qe_loc 8) (qe_tup (qa_cons (qe_int) (qa_cons (qe_int) (qa_nil))))) (qe_loc 4) (qe_loc 6)))) (qs_one (qs_if (t_cmp (c_eq rfl hr) (qe_loc 5) (qe_int)) (qs_one (qs_ixw (qe_call1 G__law_times rfl (hr.mono (by first | exact Nat.le_refl _ | omega)) TK (by rfl) (qa_cons (qe_ix rfl (qe_loc 3) (qe_int)) (qa_cons (qe_tup (qa_cons (qe_call1 G__law_take rfl (hr.mono (by first | exact Nat.le_refl _ | omega)) TK (by rfl) (qa_cons (qe_loc 1) (qa_cons (qe_loc 2) (qa_cons (qe_int) (qa_nil)))) 3 rfl (evLen_cons (evLen_cons (evLen_cons evLen_nil)))) (qa_cons (qe_int) (qa_nil)))) (qa_nil))) 2 rfl (evLen_cons (evLen_cons evLen_nil))) (qe_loc 4) (qe_loc 6))) (qs_nil))))))) (qs_nil)) (qs_cons (qs_set (qe_typ call_tuple_of (ok_tuple rfl) (by rfl) T.b_tuple (by decide +kernel) (qa_cons (qe_loc 4) (qa_nil))) (qg_name (i := 4) (sc_law).nd rfl (by first | exact Or.inl rfl | exact Or.inr rfl))) (qs_cons (qs_set (qe_call1 G__law_comes rfl (hr.mono (by first | exact Nat.le_refl _ | omega)) TK (by rfl) (qa_cons (qe_loc 3) (qa_cons (qe_loc 4) (qa_nil))) 2 rfl (evLen_cons (evLen_cons evLen_nil))) (qg_name (i := 9) (sc_law).nd rfl (by first | exact Or.inl rfl | exact Or.inr rfl))) (qs_cons (qs_if (qw_pt (qw_or (qt_not (qt_tru rfl (qe_call1 G__law_so rfl (hr.mono (by first | exact Nat.le_refl _ | omega)) TK (by rfl) (qa_cons (qe_call1 G_comes rfl (hr.mono (by first | exact Nat.le_refl _ | omega)) TK (by rfl) (qa_cons (qe_loc 3) (qa_cons (qe_loc 4) (qa_nil))) 2 rfl (evLen_cons (evLen_cons evLen_nil))) (qa_cons (qe_loc 9) (qa_nil))) 2 rfl (evLen_cons (evLen_cons evLen_nil))))) (qw_or1 (qt_not (qt_tru rfl (qe_call1 G__law_so rfl (hr.mono (by first | exact Nat.le_refl _ | omega)) TK (by rfl) (qa_cons (qe_call1 G_spread rfl (hr.mono (by first | exact Nat.le_refl _ | omega)) TK (by rfl) (qa_cons (qe_loc 3) (qa_cons (qe_loc 4) (qa_nil))) 2 rfl (evLen_cons (evLen_cons evLen_nil))) (qa_cons (qe_call1 G__law_spread rfl (hr.mono (by first | exact Nat.le_refl _ | omega)) TK (by rfl) (qa_cons (qe_loc 3) (qa_cons (qe_loc 4) (qa_nil))) 2 rfl (evLen_cons (evLen_cons evLen_nil))) (qa_nil))) 2 rfl (evLen_cons (evLen_cons evLen_nil)))))))) (qs_one (qs_ret (qe_bl))) (qs_nil)) (qs_cons (qs_set (qe_if (qt_tru rfl (qe_loc 9)) (qe_call1 G__law_least_sum rfl (hr.mono (by first | exact Nat.le_refl _ | omega)) TK (by rfl) (qa_cons (qe_loc 3) (qa_cons (qe_loc 4) (qa_cons (qe_int) (qa_nil)))) 3 rfl (evLen_cons (evLen_cons (evLen_cons evLen_nil)))) (qe_non)) (qg_name (i := 10) (sc_law).nd rfl (by first | exact Or.inl rfl | exact Or.inr rfl))) (qs_cons (qs_if (qw_pt (qw_and (qt_tru rfl (qe_loc 9)) (qw_and1 (t_cmp c_is (qe_loc 10) (qe_non))))) (qs_one (qs_ret (q_cmp (c_eq rfl hr) (qe_call1 G__law_pool_fault rfl (hr.mono (by first | exact Nat.le_refl _ | omega)) TK (by rfl) (qa_cons (qe_int) (qa_cons (qe_loc 3) (qa_cons (qe_loc 4) (qa_cons (qe_int) (qa_nil))))) 4 rfl (evLen_cons (evLen_cons (evLen_cons (evLen_cons evLen_nil))))) (qe_tup (qa_cons (qe_str) (qa_cons (qe_str) (qa_nil))))))) (qs_nil)) (qs_cons (qs_set (qe_call1 G_least_stakes rfl (hr.mono (by first | exact Nat.le_refl _ | omega)) TK (by rfl) (qa_cons (qe_loc 3) (qa_cons (qe_call1 G__law_loose rfl (hr.mono (by first | exact Nat.le_refl _ | omega)) TK (by rfl) (qa_cons (qe_loc 4) (qa_cons (qe_call1 G__law_take rfl (hr.mono (by first | exact Nat.le_refl _ | omega)) TK (by rfl) (qa_cons (qe_loc 1) (qa_cons (qe_loc 2) (qa_cons (qe_int) (qa_nil)))) 3 rfl (evLen_cons (evLen_cons (evLen_cons evLen_nil)))) (qa_nil))) 2 rfl (evLen_cons (evLen_cons evLen_nil))) (qa_nil))) 2 rfl (evLen_cons (evLen_cons evLen_nil))) (qg_name (i := 11) (sc_law).nd rfl (by first | exact Or.inl rfl | exact Or.inr rfl))) (qs_cons (qs_if (qt_not (qt_tru rfl (qe_loc 9))) (qs_one (qs_ret (q_cmp c_is (qe_loc 11) (qe_non)))) (qs_nil)) (qs_cons (qs_if (qw_pt (qw_or (qt_not (qt_tru rfl (qe_isi1 (T := .tup) T.ai_tuple rfl (by rfl) T.b_isinstance (qe_loc 11) (pe_bltn (v := .ty "tuple") (by rfl) T.b_tuple (by decide +kernel) rfl) (.ty _) T.an_tuple))) (qw_or1 (t_cmp (c_ne rfl hr) (qe_blt call_len (ok_len rfl) (by rfl) T.b_len (by decide +kernel) (qa_cons (qe_loc 11) (qa_nil))) (qe_ix rfl (qe_loc 3) (qe_int)))))) (qs_one (qs_ret (qe_bl))) (qs_nil)) (qs_cons (qs_for (n := 1000000) (passes_of (K := _) rfl) rfl (qi_seq rfl (qe_loc 11)) (qg_name (i := 12) (sc_law).nd rfl (by first | exact Or.inl rfl | exact Or.inr rfl)) (qs_one (qs_if (qw_pt (qw_or (qt_not (qt_tru rfl (qe_call1 G__law_numeric rfl (hr.mono (by first | exact Nat.le_refl _ | omega)) TK (by rfl) (qa_cons (qe_loc 12) (qa_nil)) 1 rfl (evLen_cons evLen_nil)))) (qw_or1 (t_cmp c_lt (qe_loc 12) (qe_int))))) (qs_one (qs_ret (qe_bl))) (qs_nil)))) (qs_one (qs_ret (qe_and (qe_call1 G__law_so rfl (hr.mono (by first | exact Nat.le_refl _ | omega)) TK (by rfl) (qa_cons (qe_loc 11) (qa_cons (qe_call1 G__law_first_stakes rfl (hr.mono (by first | exact Nat.le_refl _ | omega)) TK (by rfl) (qa_cons (qe_loc 3) (qa_cons (qe_loc 4) (qa_cons (qe_loc 10) (qa_nil)))) 3 rfl (evLen_cons (evLen_cons (evLen_cons evLen_nil)))) (qa_nil))) 2 rfl (evLen_cons (evLen_cons evLen_nil))) (qe_one (q_cmp (c_eq rfl hr) (qe_call1 G__law_payments rfl (hr.mono (by first | exact Nat.le_refl _ | omega)) TK (by rfl) (qa_cons (qe_loc 3) (qa_cons (qe_loc 11) (qa_nil))) 2 rfl (evLen_cons (evLen_cons evLen_nil))) (qe_loc 4))))))))))))))))))))
end
end LW

set_option Elab.async false
set_option linter.all false
set_option maxRecDepth 100000
set_option maxHeartbeats 4000000
namespace LW
open PySem RB
local macro_rules | `(tactic| exists $es,*) => `(tactic| simp (config := {decide := false, implicitDefEqProofs := false}) only [k_ok, k_exc, k_err, k_ite, k_iteS, k_nx, k_rt, k_loc, k_lit, k_nil, k_cons, k_tup, k_lst, k_bin, k_eB, k_eU, k_call, k_tru, k_not, k_and, k_or, k_if, k_eAnd, k_eOr, k_eNot, k_val, k_chain, k_sNil, k_sSeq, k_sSet, tgName, tgTup, tgCons, tgNil, Option.bind_some, k_sDrop, k_sRet, k_sRetN, k_sIf, k_sBreak, k_sCont, k_sFor, k_sRaise, k_sTry, k_defn, k_vSeq, k_rng1, k_comp,
  v_add, v_sub, v_mul, v_mod, v_div, v_lt, v_le, v_gt, v_ge, v_eq, v_ne, v_neg, v_int, v_min,
  List.map_cons, List.map_nil, List.length_cons, List.length_nil, List.replicate_succ, List.replicate_zero, List.cons_append, List.nil_append, List.append_nil, List.getElem?_cons_succ, List.getElem?_cons_zero, List.set_cons_succ, List.set_cons_zero,
  Nat.reduceAdd, Nat.reduceSub, Nat.zero_add, decide_eq_true_eq, Bool.not_eq_true', decide_eq_false_iff_not, Bool.true_eq_false, Bool.false_eq_true, if_true, if_false, ite_true, ite_false, ite_self, reduceIte, Nat.reduceLeDiff, true_and, and_true, $[$es:term],*])
theorem draw_ok {row : List Int} {p lim : Int} {c : List Cell} {r : Nat} (hr : c[r]? = some (.lst (row.map .int))) (hne : row ≠ []) (hp : 0 ≤ p) (hl : 0 < lim) (hrow : ∀ x ∈ row, 0 ≤ x ∧ x < 2147483648) (hat : p < 1000000000) :
    ∃ v, (0 ≤ v ∧ v < lim) ∧ F__law_draw [.ref r, .int p, .int lim] ⟨c, none⟩ = .ok (.int v) ⟨c, none⟩ := by
  have gl : seqOf ⟨c, none⟩ (.ref r) = some (row.map .int) := by show getL ⟨c, none⟩ r = _; unfold getL; simp only [hr]
  have ln : ∀ (X : XP) (P : W → Sto → Prop), Ok (fLen [.ref r] ⟨c, none⟩) X P = P (.int (row.length : Nat)) ⟨c, none⟩ := fun X P => by
    rw [v_lenL (by intro z h; cases h) gl, List.length_map]
  have ixq : ∀ (j : Int) (h0 : 0 ≤ j) (h1 : j < row.length) (X : XP) (P : W → Sto → Prop), Ok (wIx (.ref r) (.int j) ⟨c, none⟩) X P = P (.int (row[j.toNat]'(by omega))) ⟨c, none⟩ := fun j h0 h1 X P => by
    have h2 : j.toNat < row.length := by omega
    refine v_ix gl ?_
    rw [atI_in h0 (by rw [List.length_map]; exact h1), List.getElem?_map, List.getElem?_eq_getElem h2]
    rfl
  have hpos : 0 < row.length := List.length_pos_iff.mpr hne
  unfold F__law_draw
  by_cases hlt : p < (row.length : Int)
  · have e := ixq p hp hlt
    refine run_int ?_
    exists ln, hlt, e, hl
    rw [k_trim rfl, List.take_length]
    exact ⟨_, rfl, ⟨Int.emod_nonneg _ (by omega), Int.emod_lt_of_pos _ hl⟩, rfl⟩
  · have h3 : 0 ≤ p % (row.length : Int) := Int.emod_nonneg _ (by omega)
    have h4 : p % (row.length : Int) < row.length := Int.emod_lt_of_pos _ (by omega)
    have e := ixq _ h3 h4
    have hx := hrow _ (List.getElem_mem (l := row) (n := (p % (row.length : Int)).toNat) (by omega))
    generalize row[(p % (row.length : Int)).toNat] = x at hx e
    have m1 : mulOk x 40692 = true := mulOk_lt (m := 40) (n := 40) (by omega) (by decide) (by decide) (by decide) (by decide)
    have m2 : mulOk p 7919 = true := mulOk_lt (m := 40) (n := 40) (by omega) (by decide) (by decide) (by decide) (by decide)
    have m3 : mulOk ((x * 40692 + p * 7919 + 3) % 2147483399) 48271 = true := mulOk_lt (m := 40) (n := 40) (by omega) (by decide) (by decide) (by decide) (by decide)
    have q0 : 0 < (row.length : Int) := by omega
    refine run_int ?_
    exists ln, hlt, e, hl, m1, m2, m3, q0, (by decide : (0 : Int) < 2147483399), (by decide : (0 : Int) < 2147483647)
    rw [k_trim rfl, List.take_length]
    exact ⟨_, rfl, ⟨Int.emod_nonneg _ (by omega), Int.emod_lt_of_pos _ hl⟩, rfl⟩
end LW

set_option Elab.async false
set_option linter.all false
set_option maxRecDepth 100000
set_option maxHeartbeats 4000000
namespace LW
open PySem RB
local macro_rules | `(tactic| exists $es,*) => `(tactic| simp (config := {decide := false, implicitDefEqProofs := false}) only [k_ok, k_exc, k_err, k_ite, k_iteS, k_nx, k_rt, k_loc, k_lit, k_nil, k_cons, k_tup, k_lst, k_bin, k_eB, k_eU, k_call, k_tru, k_not, k_and, k_or, k_if, k_eAnd, k_eOr, k_eNot, k_val, k_chain, k_sNil, k_sSeq, k_sSet, tgName, tgTup, tgCons, tgNil, Option.bind_some, k_sDrop, k_sRet, k_sRetN, k_sIf, k_sBreak, k_sCont, k_sFor, k_sRaise, k_sTry, k_defn, k_vSeq, k_rng1, k_comp,
  v_add, v_sub, v_mul, v_mod, v_div, v_lt, v_le, v_gt, v_ge, v_eq, v_ne, v_neg, v_int, v_min,
  List.map_cons, List.map_nil, List.length_cons, List.length_nil, List.replicate_succ, List.replicate_zero, List.cons_append, List.nil_append, List.append_nil, List.getElem?_cons_succ, List.getElem?_cons_zero, List.set_cons_succ, List.set_cons_zero,
  Nat.reduceAdd, Nat.reduceSub, Nat.zero_add, decide_eq_true_eq, Bool.not_eq_true', decide_eq_false_iff_not, Bool.true_eq_false, Bool.false_eq_true, if_true, if_false, ite_true, ite_false, ite_self, reduceIte, Nat.reduceLeDiff, true_and, and_true, $[$es:term],*])
/-- the store of a law: the script, the row, the spot, what came behind -/
abbrev S (ns : List W) (row : List Int) (p : Int) (rest : List Cell) : Sto := ⟨.scr ns :: .lst (row.map .int) :: .lst [.int p] :: rest, none⟩
structure RowOk (row : List Int) : Prop where
  ne : row ≠ []
  bd : ∀ x ∈ row, 0 ≤ x ∧ x < 2147483648
section
variable {ns : List W} {row : List Int} {p : Int} {rest g : List Cell} {x y : Cell}
theorem S_len : (S ns row p rest).c.length = rest.length + 1 + 1 + 1 := rfl
theorem S_push : (S ns row p rest).push x = S ns row p (rest ++ [x]) := rfl
theorem S_get : (S ns row p (rest ++ x :: g)).c[rest.length + 1 + 1 + 1]? = some x := by
  show (rest ++ x :: g)[rest.length]? = some x
  rw [List.getElem?_append_right (Nat.le_refl _), Nat.sub_self]; rfl
theorem S_put : (S ns row p (rest ++ x :: g)).put (rest.length + 1 + 1 + 1) y true = S ns row p (rest ++ y :: g) := by
  show (⟨Cell.scr ns :: .lst (row.map .int) :: .lst [.int p] :: ((rest ++ x :: g).set rest.length y), none⟩ : Sto) = _
  rw [List.set_append_right _ _ (Nat.le_refl _), Nat.sub_self]; rfl
theorem S_seq {ws : List W} : seqOf (S ns row p (rest ++ .lst ws :: g)) (.ref (rest.length + 1 + 1 + 1)) = some ws := by
  show getL _ _ = _
  unfold getL; rw [S_get]
theorem S_cut : (S ns row p (rest ++ g)).cut (rest.length + 1 + 1 + 1) = S ns row p rest := by
  show (⟨(Cell.scr ns :: .lst (row.map .int) :: .lst [.int p] :: (rest ++ g)).take (rest.length + 1 + 1 + 1), none⟩ : Sto) = _
  simp
theorem S_trim {w : W} {X : XP} {P : W → Sto → Prop} (h : W.pure w = true) : Ok (trim (rest.length + 1 + 1 + 1) w (S ns row p (rest ++ g))) X P = P w (S ns row p rest) := by
  rw [k_trim h]
  have := S_cut (ns := ns) (row := row) (p := p) (rest := rest) (g := g)
  unfold Sto.cut at this
  rw [this]
theorem S_trim0 {w : W} {X : XP} {P : W → Sto → Prop} (h : W.pure w = true) : Ok (trim (rest.length + 1 + 1 + 1) w (S ns row p rest)) X P = P w (S ns row p rest) := by
  have := S_trim (ns := ns) (row := row) (p := p) (rest := rest) (g := []) (X := X) (P := P) h
  rwa [List.append_nil] at this
theorem take_ok (R : RowOk row) (hp : 0 ≤ p) (hat : p < 100000000) {lim : Int} (hl : 0 < lim) :
    ∃ v, (0 ≤ v ∧ v < lim) ∧ F__law_take [.ref 1, .ref 2, .int lim] (S ns row p rest) = .ok (.int v) (S ns row (p + 1) rest) := by
  obtain ⟨v, hv, e⟩ := draw_ok (c := (S ns row (p + 1) rest).c) (r := 1) (row := row) (p := p) rfl R.ne hp hl R.bd (by omega)
  have e1 : p + 1 - 1 = p := by omega
  refine ⟨v, hv, run_eq ?_⟩
  unfold F__law_take
  have ix0 : ∀ (q : Int) (X : XP) (P : W → Sto → Prop), Ok (wIx (.ref 2) (.int 0) (S ns row q rest)) X P = P (.int q) (S ns row q rest) := fun q X P => v_ix (ws := [.int q]) rfl rfl
  have iw : ∀ (q : Int) (l : Lo) (D : Po4), OkS (sIxW (eLoc 1) (eLit (.int 0)) (eBin wAdd (eBin wIx (eLoc 1) (eLit (.int 0))) (eLit (.int 1))) (some (.ref 1) :: some (.ref 2) :: l) (S ns row q rest)) D = D.nx (some (.ref 1) :: some (.ref 2) :: l) (S ns row (q + 1) rest) := fun q l D => rfl
  have e' : ∀ (X : XP) (P : W → Sto → Prop), Ok (F__law_draw [.ref 1, .int p, .int lim] (S ns row (p + 1) rest)) X P = P (.int v) (S ns row (p + 1) rest) := fun X P => by rw [e]; rfl
  exists iw, ix0, e1, e', S_len
  rw [S_trim0 rfl]
  exact ⟨rfl, rfl⟩
end
end LW

set_option Elab.async false
set_option linter.all false
set_option maxRecDepth 100000
set_option maxHeartbeats 4000000
namespace LW
open PySem RB L2
local macro_rules | `(tactic| exists $es,*) => `(tactic| simp (config := {decide := false, implicitDefEqProofs := false}) only [k_ok, k_exc, k_err, k_ite, k_iteS, k_nx, k_rt, k_loc, k_lit, k_nil, k_cons, k_tup, k_lst, k_bin, k_eB, k_eU, k_call, k_tru, k_not, k_and, k_or, k_if, k_eAnd, k_eOr, k_eNot, k_val, k_chain, k_sNil, k_sSeq, k_sSet, tgName, tgTup, tgCons, tgNil, Option.bind_some, k_sDrop, k_sRet, k_sRetN, k_sIf, k_sBreak, k_sCont, k_sFor, k_sRaise, k_sTry, k_defn, k_vSeq, k_rng1, k_comp,
  v_add, v_sub, v_mul, v_mod, v_div, v_lt, v_le, v_gt, v_ge, v_eq, v_ne, v_neg, v_int, v_min,
  List.map_cons, List.map_nil, List.length_cons, List.length_nil, List.replicate_succ, List.replicate_zero, List.cons_append, List.nil_append, List.append_nil, List.getElem?_cons_succ, List.getElem?_cons_zero, List.set_cons_succ, List.set_cons_zero,
  Nat.reduceAdd, Nat.reduceSub, Nat.zero_add, decide_eq_true_eq, Bool.not_eq_true', decide_eq_false_iff_not, Bool.true_eq_false, Bool.false_eq_true, if_true, if_false, ite_true, ite_false, ite_self, reduceIte, Nat.reduceLeDiff, true_and, and_true, $[$es:term],*])
theorem run_ex {α : Type} {r : Res α} {Q : α → Sto → Prop} (h : Ok r (fun _ _ _ => False) Q) : ∃ a t, r = .ok a t ∧ Q a t := by
  cases r with
  | ok b t => exact ⟨b, t, rfl, h⟩
  | exc c p t => exact h.elim
  | err => exact h.elim
theorem kk {α : Type} {r : Res α} {a : α} {t : Sto} (h : r = .ok a t) (X : XP) (P : α → Sto → Prop) : Ok r X P = P a t := by rw [h]; rfl
section
variable {ns : List W} {row : List Int} {p : Int} {rest g : List Cell} {x y : Cell}
theorem takeK (R : RowOk row) (hp : 0 ≤ p) (hat : p < 100000000) (rest : List Cell) {lim : Int} (hl : 0 < lim) :
    ∃ v, (0 ≤ v ∧ v < lim) ∧ ∀ (X : XP) (P : W → Sto → Prop), Ok (F__law_take [.ref 1, .ref 2, .int lim] (S ns row p rest)) X P = P (.int v) (S ns row (p + 1) rest) := by
  obtain ⟨v, h, e⟩ := take_ok (ns := ns) (rest := rest) R hp hat hl
  exact ⟨v, h, kk e⟩
theorem up_len (lo : Int) : ∀ n : Nat, (upFrom lo n).length = n
  | 0 => rfl
  | n + 1 => by show (upFrom (lo + 1) n).length + 1 = n + 1; rw [up_len (lo + 1) n]
theorem up_get {n i : Nat} {w : W} (h : (upFrom 0 n)[i]? = some w) : i < n ∧ w = .int (i : Nat) := by
  rw [upFrom_get] at h
  split at h
  · rename_i q; cases h; exact ⟨q, by rw [Int.zero_add]⟩
  · cases h
end
theorem k_eMt {F : W → List W → Sto → Res W} {o : Ev} {a : Evs} {l : Lo} {st : Sto} {X : XP} {P : W → Sto → Prop} : Ok (eMt F o a l st) X P = Ok (o l st) X fun x st1 => if isL st1 x = true then Ok (a l st1) X fun ws st2 => Ok (F x ws st2) X P else False := by
  unfold eMt; simp only [k_bind, k_ite, k_err]
section
variable {c g : List Cell} {x y : Cell} {X : XP} {P : W → Sto → Prop}
theorem ints_pure : ∀ l : List Int, W.pures (l.map W.int) = true
  | [] => rfl
  | a :: r => by show (W.pure (W.int _) && W.pures _) = true; rw [ints_pure r]; rfl
theorem k_isi {ans : Tn → Option Bool} {a : Ev} {l : Lo} {st : Sto} : Ok (eIsi ans a l st) X P = Ok (a l st) X fun w st1 => match (tnOf st1 w).bind ans with | some b => P (.bl b) st1 | none => False := by
  unfold eIsi; rw [k_bind]; congr 1; funext w st1; cases (tnOf st1 w).bind ans <;> rfl
theorem k_make {n : Nat} {F : List W → Sto → Res W} {a : Evs} {l : Lo} {st : Sto} : Ok (eMake n F [] a l st) X P = Ok (a l st) X fun ws st1 => Ok (F (.ref st1.c.length :: (ws ++ [])) (st1.push (.ins n []))) X fun v st2 => match v with | .non => P (.ref st1.c.length) st2 | _ => False := by
  unfold eMake; simp only [k_bind]; congr 1; funext w st1; congr 1; funext v st2; cases v <;> rfl
theorem c_get : (c ++ x :: g)[c.length]? = some x := by
  rw [List.getElem?_append_right (Nat.le_refl _), Nat.sub_self]; rfl
theorem c_put : (⟨c ++ x :: g, none⟩ : Sto).put c.length y true = ⟨c ++ y :: g, none⟩ := by
  show (⟨(c ++ x :: g).set c.length y, none⟩ : Sto) = _
  rw [List.set_append_right _ _ (Nat.le_refl _), Nat.sub_self]; rfl
theorem c_seq {ws : List W} : seqOf ⟨c ++ .lst ws :: g, none⟩ (.ref c.length) = some ws := by
  show getL _ _ = _
  unfold getL; rw [c_get]
theorem c_trim {w : W} (h : W.pure w = true) : Ok (trim c.length w ⟨c ++ g, none⟩) X P = P w ⟨c, none⟩ := by
  rw [k_trim h, List.take_left]
theorem c_trim0 {w : W} (h : W.pure w = true) : Ok (trim c.length w ⟨c, none⟩) X P = P w ⟨c, none⟩ := by
  rw [k_trim h, List.take_length]
theorem c_push : (⟨c, none⟩ : Sto).push x = ⟨c ++ x :: [], none⟩ := rfl
theorem v_all {st : Sto} {n : Nat} {ws : List W} {bs : List Bool} (h : getL st n = some ws) (h2 : bools ws = some bs) : Ok (fAll [.ref n] st) X P = P (.bl (bs.all id)) st := by
  unfold fAll; simp only [h, Option.bind_some, h2]; rfl
theorem bools_rep (n : Nat) : bools (List.replicate n (.bl true)) = some (List.replicate n true) := by
  induction n with
  | zero => rfl
  | succ n ih => show (bools (List.replicate n (.bl true))).map (true :: ·) = _; rw [ih]; rfl
theorem all_rep (n : Nat) : (List.replicate n true).all id = true := by
  induction n with
  | zero => rfl
  | succ n ih => show (true && (List.replicate n true).all id) = true; rw [ih]; rfl
def trues (n : Nat) : List W := List.replicate n (.bl true)
theorem trues_len (n : Nat) : (trues n).length = n := List.length_replicate ..
theorem trues_snoc {n : Nat} : trues n ++ [.bl true] = trues (n + 1) := by unfold trues; rw [List.replicate_succ']
theorem bools_trues (n : Nat) : bools (trues n) = some (List.replicate n true) := bools_rep n
end
end LW

set_option Elab.async false
set_option linter.all false
set_option maxRecDepth 100000
set_option maxHeartbeats 4000000
namespace LW
open PySem RB
local macro_rules | `(tactic| exists $es,*) => `(tactic| simp (config := {decide := false, implicitDefEqProofs := false}) only [k_ok, k_exc, k_err, k_ite, k_iteS, k_nx, k_rt, k_loc, k_lit, k_nil, k_cons, k_tup, k_lst, k_bin, k_eB, k_eU, k_call, k_tru, k_not, k_and, k_or, k_if, k_eAnd, k_eOr, k_eNot, k_val, k_chain, k_sNil, k_sSeq, k_sSet, tgName, tgTup, tgCons, tgNil, Option.bind_some, k_sDrop, k_sRet, k_sRetN, k_sIf, k_sBreak, k_sCont, k_sFor, k_sRaise, k_sTry, k_defn, k_vSeq, k_rng1, k_comp,
  v_add, v_sub, v_mul, v_mod, v_div, v_lt, v_le, v_gt, v_ge, v_eq, v_ne, v_neg, v_int, v_min,
  List.map_cons, List.map_nil, List.length_cons, List.length_nil, List.replicate_succ, List.replicate_zero, List.cons_append, List.nil_append, List.append_nil, List.getElem?_cons_succ, List.getElem?_cons_zero, List.set_cons_succ, List.set_cons_zero,
  Nat.reduceAdd, Nat.reduceSub, Nat.zero_add, decide_eq_true_eq, Bool.not_eq_true', decide_eq_false_iff_not, Bool.true_eq_false, Bool.false_eq_true, if_true, if_false, ite_true, ite_false, ite_self, reduceIte, Nat.reduceLeDiff, true_and, and_true, $[$es:term],*])
/-- the store of the reading -/
abbrev N3 (c0 c2 : Cell) (row : List Int) : Sto := ⟨[c0, .lst (row.map .int), c2], none⟩
theorem app1 {c0 c2 : Cell} {row : List Int} {y : Int} {X : XP} {P : W → Sto → Prop} (h : row.length < 1000000) : Ok (fAppend (.ref 1) [.int y] (N3 c0 c2 row)) X P = P .non (N3 c0 c2 (row ++ [y])) := by
  show Ok (if (row.map W.int).length < 1000000 then _ else _) X P = _
  rw [if_pos (by rw [List.length_map]; exact h)]
  show P .non ⟨[c0, .lst (row.map .int ++ [.int y]), c2], none⟩ = P .non ⟨[c0, .lst ((row ++ [y]).map .int), c2], none⟩
  rw [List.map_append]; rfl
theorem isL1 {c0 c2 : Cell} {row : List Int} : isL (N3 c0 c2 row) (.ref 1) = true := rfl
theorem mul_big {a b : Int} (h : Builtin.Int.intBits a ≤ 1048576) (hb : b.natAbs.log2 < 1000) : mulOk a b = true := by
  unfold mulOk
  have : a.natAbs.log2 ≤ 1048576 := by
    unfold Builtin.Int.intBits at h
    split at h
    · rename_i e; rw [beq_iff_eq] at e; subst e; decide
    · omega
  exact decide_eq_true (by omega)
def Bd (row : List Int) : Prop := ∀ x ∈ row, 0 ≤ x ∧ x < 2147483648
theorem Bd.snoc {row : List Int} {y : Int} (h : Bd row) (h0 : 0 ≤ y) (h1 : y < 2147483648) : Bd (row ++ [y]) := fun x hx => by
  rcases List.mem_append.mp hx with q | q
  · exact h x q
  · rw [List.mem_singleton.mp q]; exact ⟨h0, h1⟩
theorem numbers_ok {ns : List Int} (hl : ns.length ≤ 63) (hb : ∀ z ∈ ns, Builtin.Int.intBits z ≤ 1048576) : ∃ row, RowOk row ∧ F__law_numbers [.ref 0] ⟨[.scr (ns.map .int)], none⟩ = .ok (.ref 1) ⟨[.scr (ns.map .int), .lst (row.map .int)], none⟩ := by
  suffices h : Ok (F__law_numbers [.ref 0] ⟨[.scr (ns.map .int)], none⟩) (fun _ _ _ => False) fun a st => ∃ row, RowOk row ∧ a = .ref 1 ∧ st = ⟨[.scr (ns.map .int), .lst (row.map .int)], none⟩ by
    obtain ⟨a, st, e, row, q1, rfl, rfl⟩ := run_ex h
    exact ⟨row, q1, e⟩
  unfold F__law_numbers
  have hsl : ∀ (X : XP) (P : W → Sto → Prop), Ok (eSl (eLoc 0) poNone (poSome (eLit (.int 63))) [some (.ref 0), some (.ref 1), none, none, none, none] ⟨[.scr (ns.map .int), .lst []], none⟩) X P = P (.ref 2) (N3 (.scr (ns.map .int)) (.lst (ns.map .int)) []) := fun X P => by
    show P (.ref 2) ⟨[.scr (ns.map .int), .lst [], .lst (cutW (ns.map W.int) none (some 63))], none⟩ = _
    have : cutW (ns.map W.int) none (some 63) = ns.map W.int := by
      unfold cutW
      have e1 : HT.sIx (ns.map W.int).length 0 none = 0 := rfl
      have e2 : HT.sIx (ns.map W.int).length (ns.map W.int).length (some 63) = (ns.map W.int).length := by
        rw [List.length_map]
        show min 63 ns.length = ns.length
        omega
      rw [e1, e2, List.drop_zero, Nat.sub_zero, List.take_length]
    rw [this]; rfl
  generalize hT : sSeq (sIf (bVal (eBin wEq (eB fLen (evCons (eLoc 1) evNil)) (eLit (.int 0)))) _ _) _ = T
  exists hsl, (Nat.zero_le _ : ([] : List W).length ≤ 1000), Sto.push, k_eMt
  show OkS (loopF (Src.live 2) _ _ _ _ _ _) _
  have p1 : ∀ (l : Lo) (st : Sto) (X : XP) (P : W → Sto → Prop), Ok (eBin wPow (eLit (.int 10)) (eLit (.int 18)) l st) X P = P (.int 1000000000000000000) st := fun l st X P => by
    rw [k_bin, k_lit, k_lit]
    have : wPow (.int 10) (.int 18) st = .ok (.int 1000000000000000000) st := by unfold wPow; rfl
    rw [this]; rfl
  refine loop_fix (ns.map .int) (fun i l st => ∃ (row : List Int) (a b c d : Option W), Bd row ∧ row.length ≤ 60 * i ∧ l = [some (.ref 0), some (.ref 1), a, b, c, d] ∧ st = N3 (.scr (ns.map .int)) (.lst (ns.map .int)) row) ?_ ?_ ?_ 1000000 0 _ _ (by rw [List.length_map]; omega) (Nat.zero_le _) ⟨[], _, _, _, _, (by intro x hx; cases hx), by simp, rfl, rfl⟩
  · rintro i l st ⟨row, a, b, c, d, _, _, _, rfl⟩
    rfl
  · rintro i w l st hw ⟨row, a, b, c, d, hB, hlen, rfl, rfl⟩
    refine ⟨_, rfl, ?_⟩
    have hi : i < ns.length := by have := (List.getElem?_eq_some_iff.mp hw).1; rwa [List.length_map] at this
    obtain ⟨z, hz, rfl⟩ : ∃ z, z ∈ ns ∧ w = .int z := by
      rw [List.getElem?_map] at hw
      cases e : ns[i]? with
      | none => rw [e] at hw; cases hw
      | some z => rw [e] at hw; cases hw; exact ⟨z, List.mem_of_getElem? e, rfl⟩
    exists p1, (by decide : (-1000000 : Int) ≤ 60), (by decide : (60 : Int) ≤ 1000000), (by decide : (-1000000 : Int) ≤ 4), (by decide : (4 : Int) ≤ 1000000)
    by_cases hz18 : 1000000000000000000 ≤ z
    · rw [if_pos hz18]
      refine loop_fix (upFrom 0 60) (fun j l st => ∃ (row : List Int) (left : Int) (c d : Option W), Bd row ∧ row.length ≤ 60 * i + j ∧ l = [some (.ref 0), some (.ref 1), some (.int z), some (.int left), c, d] ∧ st = N3 (.scr (ns.map .int)) (.lst (ns.map .int)) row) (fun _ _ _ _ => rfl) ?_ ?_ 1000000 0 _ _ (by rw [up_len]; omega) (Nat.zero_le _) ⟨row, z, c, d, hB, by omega, rfl, rfl⟩
      · rintro j w l st hw ⟨row, left, c, d, hB, hlen, rfl, rfl⟩
        obtain ⟨hj, rfl⟩ := up_get hw
        refine ⟨_, rfl, ?_⟩
        have hd : divOk 997 = true := by decide
        exists k_eMt, isL1, app1 (show row.length < 1000000 by omega), hd, (by decide : (0 : Int) < 997)
        by_cases h0 : left = 0
        · rw [if_pos h0]
          exact ⟨row, _, _, _, _, hB, by omega, rfl, rfl⟩
        · rw [if_neg h0]
          exact ⟨_, _, _, _, hB.snoc (Int.emod_nonneg _ (by decide)) (Int.lt_trans (Int.emod_lt_of_pos _ (by decide)) (by decide)), by rw [List.length_append]; simp; omega, rfl, rfl⟩
      · rintro l st ⟨row, left, c, d, hB, hlen, rfl, rfl⟩
        rw [up_len] at hlen
        exact ⟨row, _, _, _, _, hB, by omega, rfl, rfl⟩
    · rw [if_neg hz18]
      refine loop_fix (upFrom 0 4) (fun j l st => ∃ (row : List Int) (b c d : Option W), Bd row ∧ row.length ≤ 60 * i + j ∧ l = [some (.ref 0), some (.ref 1), some (.int z), b, c, d] ∧ st = N3 (.scr (ns.map .int)) (.lst (ns.map .int)) row) (fun _ _ _ _ => rfl) ?_ ?_ 1000000 0 _ _ (by rw [up_len]; omega) (Nat.zero_le _) ⟨row, b, c, d, hB, by omega, rfl, rfl⟩
      · rintro j w l st hw ⟨row, b, c, d, hB, hlen, rfl, rfl⟩
        obtain ⟨hj, rfl⟩ := up_get hw
        refine ⟨_, rfl, ?_⟩
        have m1 : mulOk z 48271 = true := mul_big (hb z hz) (by decide)
        have m2 : mulOk (j : Int) 69621 = true := mulOk_lt (m := 40) (n := 40) (by omega) (by decide) (by decide) (by decide) (by decide)
        have m3 : mulOk ((z * 48271 + (j : Int) * 69621 + 11) % 2147483647) 16807 = true := mulOk_lt (m := 40) (n := 40) (by omega) (by decide) (by decide) (by decide) (by decide)
        exists k_eMt, isL1, app1 (show row.length < 1000000 by omega), m1, m2, m3, (by decide : (0 : Int) < 2147483647), (by decide : (0 : Int) < 2147483629)
        exact ⟨_, _, _, _, hB.snoc (Int.emod_nonneg _ (by decide)) (Int.lt_trans (Int.emod_lt_of_pos _ (by decide)) (by decide)), by rw [List.length_append]; simp; omega, rfl, rfl⟩
      · rintro l st ⟨row, b, c, d, hB, hlen, rfl, rfl⟩
        rw [up_len] at hlen
        exact ⟨row, _, _, _, _, hB, by omega, rfl, rfl⟩
  · rintro l st ⟨row, a, b, c, d, hB, hlen, rfl, rfl⟩
    rw [List.length_map] at hlen
    subst hT
    have fl : ∀ (X : XP) (P : W → Sto → Prop), Ok (fLen [.ref 1] (N3 (.scr (ns.map .int)) (.lst (ns.map .int)) row)) X P = P (.int (row.length : Nat)) (N3 (.scr (ns.map .int)) (.lst (ns.map .int)) row) := fun X P => by
      rw [v_lenL (by intro z h; cases h) (ws := row.map .int) rfl, List.length_map]
    have tr : ∀ (row : List Int) (X : XP) (P : W → Sto → Prop), Ok (trim 1 (.ref 1) (N3 (.scr (ns.map .int)) (.lst (ns.map .int)) row)) X P = P (.ref 1) ⟨[.scr (ns.map .int), .lst (row.map .int)], none⟩ := fun row X P => by
      have : trim 1 (.ref 1) (N3 (.scr (ns.map .int)) (.lst (ns.map .int)) row) = (if W.pures (row.map W.int) = true then .ok (.ref 1) ⟨[.scr (ns.map .int), .lst (row.map .int)], none⟩ else .ok (.ref 1) (N3 (.scr (ns.map .int)) (.lst (ns.map .int)) row)) := rfl
      rw [this, if_pos (ints_pure row)]; rfl
    exists fl, k_eMt, isL1, app1 (show row.length < 1000000 by omega), tr
    by_cases h0 : (row.length : Int) = 0
    · rw [if_pos h0]
      exact ⟨row ++ [0], ⟨by simp, hB.snoc (by decide) (by decide)⟩, by first | rfl | exact ⟨rfl, rfl⟩⟩
    · rw [if_neg h0]
      exact ⟨row, ⟨by intro e; subst e; exact h0 rfl, hB⟩, by first | rfl | exact ⟨rfl, rfl⟩⟩
end LW

set_option Elab.async false
set_option linter.all false
set_option maxRecDepth 100000
set_option maxHeartbeats 4000000
namespace LW
open PySem RB L2
local macro_rules | `(tactic| exists $es,*) => `(tactic| simp (config := {decide := false, implicitDefEqProofs := false}) only [k_ok, k_exc, k_err, k_ite, k_iteS, k_nx, k_rt, k_loc, k_lit, k_nil, k_cons, k_tup, k_lst, k_bin, k_eB, k_eU, k_call, k_tru, k_not, k_and, k_or, k_if, k_eAnd, k_eOr, k_eNot, k_val, k_chain, k_sNil, k_sSeq, k_sSet, tgName, tgTup, tgCons, tgNil, Option.bind_some, k_sDrop, k_sRet, k_sRetN, k_sIf, k_sBreak, k_sCont, k_sFor, k_sRaise, k_sTry, k_defn, k_vSeq, k_rng1, k_comp,
  v_add, v_sub, v_mul, v_mod, v_div, v_lt, v_le, v_gt, v_ge, v_eq, v_ne, v_neg, v_int, v_min,
  List.map_cons, List.map_nil, List.length_cons, List.length_nil, List.replicate_succ, List.replicate_zero, List.cons_append, List.nil_append, List.append_nil, List.getElem?_cons_succ, List.getElem?_cons_zero, List.set_cons_succ, List.set_cons_zero,
  Nat.reduceAdd, Nat.reduceSub, Nat.zero_add, decide_eq_true_eq, Bool.not_eq_true', decide_eq_false_iff_not, Bool.true_eq_false, Bool.false_eq_true, if_true, if_false, ite_true, ite_false, ite_self, reduceIte, Nat.reduceLeDiff, true_and, and_true, $[$es:term],*])
abbrev C (c : List Cell) : Sto := ⟨c, none⟩
abbrev nX : XP := fun _ _ _ => False
theorem ok_of {α : Type} {r : Res α} {a : α} {t : Sto} (h : r = .ok a t) {X : XP} {P : α → Sto → Prop} (p : P a t) : Ok r X P := by rw [h]; exact p
section
variable {c g : List Cell} {X : XP}
theorem cl_pure {ws : List W} {s : Src} (hat : ∀ us i, s.at (C (c ++ .lst us :: [])) i = some ws[i]?) {tg : Tg} {own : List Nat} {cond : Bv} {elt : Ev} {l : Lo} {P : Unit → Sto → Prop} (cb : W → Bool) (ev : W → W) (hw : ws.length < 1000000)
    (hs : ∀ w ∈ ws, ∃ l1, (∀ st, tg w (wipeL l own) st = some l1) ∧ (∀ us, cond l1 (C (c ++ .lst us :: [])) = .ok (cb w) (C (c ++ .lst us :: []))) ∧ (cb w = true → W.pure (ev w) = true ∧ ∀ us, elt l1 (C (c ++ .lst us :: [])) = .ok (ev w) (C (c ++ .lst us :: []))))
    (h : P () (C (c ++ .lst ((ws.filter cb).map ev) :: []))) : Ok (cLoop s tg own cond (cApp elt c.length) l 1000000 0 (C (c ++ .lst [] :: []))) X P := by
  refine cloop_fix ws (fun i acc st => acc = ((ws.take i).filter cb).map ev ∧ st = C (c ++ .lst acc :: [])) (fun i _ _ h => by rw [h.2]; exact hat _ i) ?_ ?_ 1000000 0 [] _ (by omega) (Nat.zero_le _) ⟨by simp, rfl⟩
  · rintro i w acc st hw2 ⟨rfl, rfl⟩
    have hi := (List.getElem?_eq_some_iff.mp hw2).1
    have tk : ws.take (i + 1) = ws.take i ++ [w] := by rw [List.take_succ, hw2]; rfl
    obtain ⟨l1, h1, h2, h3⟩ := hs w (List.mem_of_getElem? hw2)
    refine ⟨l1, h1 _, ok_of (h2 _) ?_⟩
    cases hb : cb w with
    | false =>
      rw [if_neg (by decide)]
      have : ((ws.take (i + 1)).filter cb).map ev = ((ws.take i).filter cb).map ev := by rw [tk, List.filter_append, List.filter_cons, if_neg (by rw [hb]; decide)]; simp
      exact ⟨this.symm, by first | rfl | rw [this]⟩
    | true =>
      rw [if_pos rfl]
      obtain ⟨h4, h5⟩ := h3 hb
      have e : ((ws.take (i + 1)).filter cb).map ev = ((ws.take i).filter cb).map ev ++ [ev w] := by rw [tk, List.filter_append, List.filter_cons, if_pos hb]; simp
      have hl : (((ws.take i).filter cb).map ev).length ≤ i := by
        rw [List.length_map]
        exact Nat.le_trans (List.length_filter_le _ _) (by rw [List.length_take]; exact Nat.min_le_left _ _)
      refine ok_of (h5 _) ⟨((ws.take i).filter cb).map ev, c_get, by omega, e.symm, ?_⟩
      rw [W.pure_low h4]
      exact c_put
  · rintro acc st ⟨rfl, rfl⟩
    rw [List.take_length]
    exact h
theorem cl_map {ws : List W} {s : Src} (hat : ∀ us i, s.at (C (c ++ .lst us :: [])) i = some ws[i]?) {tg : Tg} {own : List Nat} {elt : Ev} {l : Lo} {P : Unit → Sto → Prop} (ev : W → W) (hw : ws.length < 1000000)
    (hs : ∀ w ∈ ws, ∃ l1, (∀ st, tg w (wipeL l own) st = some l1) ∧ W.pure (ev w) = true ∧ ∀ us, elt l1 (C (c ++ .lst us :: [])) = .ok (ev w) (C (c ++ .lst us :: [])))
    (h : P () (C (c ++ .lst (ws.map ev) :: []))) : Ok (cLoop s tg own bYes (cApp elt c.length) l 1000000 0 (C (c ++ .lst [] :: []))) X P := by
  refine cl_pure hat (fun _ => true) ev hw (fun w hw => ?_) ?_
  · obtain ⟨l1, h1, h2, h3⟩ := hs w hw
    exact ⟨l1, h1, fun _ => rfl, fun _ => ⟨h2, h3⟩⟩
  · rw [List.filter_eq_self.mpr fun _ _ => rfl]; exact h
/-- the body of a loop that goes on -/
theorem cloop_any {ws : List W} {tg : Tg} {own : List Nat} {cond : Bv} {body : Rv} {s : Src} {l : Lo} {P : Unit → Sto → Prop} (Inv : Nat → Sto → Prop) (hat : ∀ i st, Inv i st → s.at st i = some ws[i]?)
    (step : ∀ i w st, ws[i]? = some w → Inv i st → ∃ l1, tg w (wipeL l own) st = some l1 ∧ cond l1 st = .ok true st ∧ Ok (body l1 st) nX fun _ st2 => Inv (i + 1) st2)
    (done : ∀ st, Inv ws.length st → P () st) : ∀ (f i : Nat) (st : Sto), ws.length < f + i → i ≤ ws.length → Inv i st → Ok (cLoop s tg own cond body l f i st) X P
  | 0, i, st, h, h2, _ => by omega
  | f + 1, i, st, h, h2, inv => by
    unfold cLoop
    rw [hat i st inv]
    cases e : ws[i]? with
    | none =>
      have : i = ws.length := by
        have := List.getElem?_eq_none_iff.mp e
        omega
      subst this
      exact done st inv
    | some w =>
      obtain ⟨l1, h3, h4, h5⟩ := step i w st e inv
      have hi : i < ws.length := (List.getElem?_eq_some_iff.mp e).1
      simp only [h3, h4, if_true]
      generalize body l1 st = r at h5 ⊢
      cases r with
      | exc c p st1 => exact h5.elim
      | err => exact h5.elim
      | ok y st2 => exact cloop_any Inv hat step done f (i + 1) st2 (by omega) (by omega) h5
theorem cl_app {elt : Ev} {l : Lo} {us : List W} {v : W} {P : Unit → Sto → Prop} (h : elt l (C (c ++ .lst us :: g)) = .ok v (C (c ++ .lst us :: g))) (hv : W.pure v = true) (hl : us.length < 1000000) (p : P () (C (c ++ .lst (us ++ [v]) :: g))) : Ok (cApp elt c.length l (C (c ++ .lst us :: g))) X P := by
  unfold cApp
  rw [h]
  dsimp only
  have e : (C (c ++ .lst us :: g)).c[c.length]? = some (.lst us) := c_get
  rw [e]
  dsimp only
  rw [if_pos hl, W.pure_low hv, c_put]
  exact p
/-- two fors over fixed items -/
theorem cl2_map {ws : List W} {s : Src} (hat : ∀ us i, s.at (C (c ++ .lst us :: [])) i = some ws[i]?) {tg tg1 : Tg} {own own1 : List Nat} {src1 : Sv} {elt : Ev} {l : Lo} {P : Unit → Sto → Prop} (ys : W → List W) (ev : W → W → W) (hz : (ws.flatMap fun w => (ys w).map (ev w)).length < 1000000) (hw : ws.length < 1000000) (hy : ∀ w ∈ ws, (ys w).length < 1000000)
    (hs : ∀ w ∈ ws, ∃ l1, (∀ st, tg w (wipeL l own) st = some l1) ∧ (∃ s1 : Src, (∀ us i, s1.at (C (c ++ .lst us :: [])) i = some (ys w)[i]?) ∧ ∀ us, src1 l1 (C (c ++ .lst us :: [])) = .ok s1 (C (c ++ .lst us :: []))) ∧
      ∀ y ∈ ys w, ∃ l2, (∀ st, tg1 y (wipeL l1 own1) st = some l2) ∧ W.pure (ev w y) = true ∧ ∀ us, elt l2 (C (c ++ .lst us :: [])) = .ok (ev w y) (C (c ++ .lst us :: [])))
    (h : P () (C (c ++ .lst (ws.flatMap fun w => (ys w).map (ev w)) :: []))) :
    Ok (cLoop s tg own bYes (fun l1 st2 => (src1 l1 st2).bind fun s1 st3 => cLoop s1 tg1 own1 bYes (cApp elt c.length) l1 1000000 0 st3) l 1000000 0 (C (c ++ .lst [] :: []))) X P := by
  refine cloop_any (ws := ws) (fun i st => st = C (c ++ .lst ((ws.take i).flatMap fun w => (ys w).map (ev w)) :: [])) (fun i _ h => by rw [h]; exact hat _ i) ?_ ?_ 1000000 0 _ (by omega) (Nat.zero_le _) (by simp)
  · rintro i w st hw2 rfl
    have hm := List.mem_of_getElem? hw2
    have hi := (List.getElem?_eq_some_iff.mp hw2).1
    have tk : ws.take (i + 1) = ws.take i ++ [w] := by rw [List.take_succ, hw2]; rfl
    obtain ⟨l1, h1, ⟨s1, hat1, h2⟩, h3⟩ := hs w hm
    refine ⟨l1, h1 _, rfl, ?_⟩
    rw [k_bind]
    refine ok_of (h2 _) ?_
    have cut : ∀ j, (((ws.take i).flatMap fun w => (ys w).map (ev w)) ++ ((ys w).take j).map (ev w)).length < 1000000 := fun j => by
      refine Nat.lt_of_le_of_lt ?_ hz
      have e : ws = ws.take i ++ w :: ws.drop (i + 1) := by
        have : ws[i] = w := by rw [List.getElem?_eq_getElem hi] at hw2; cases hw2; rfl
        rw [← this, List.getElem_cons_drop, List.take_append_drop]
      have e2 : (ws.flatMap fun w => (ys w).map (ev w)) = ((ws.take i).flatMap fun w => (ys w).map (ev w)) ++ ((ys w).map (ev w) ++ (ws.drop (i + 1)).flatMap fun w => (ys w).map (ev w)) := by
        conv => lhs; rw [e]
        rw [List.flatMap_append, List.flatMap_cons]
      rw [e2]
      simp only [List.length_append, List.length_map, List.length_take]
      omega
    refine cloop_any (ws := ys w) (fun j st => st = C (c ++ .lst (((ws.take i).flatMap fun w => (ys w).map (ev w)) ++ ((ys w).take j).map (ev w)) :: [])) (fun j _ h => by rw [h]; exact hat1 _ j) ?_ ?_ 1000000 0 _ (by have := hy w hm; omega) (Nat.zero_le _) (by simp)
    · rintro j y st hy2 rfl
      have tk2 : (ys w).take (j + 1) = (ys w).take j ++ [y] := by rw [List.take_succ, hy2]; rfl
      obtain ⟨l2, h4, h5, h6⟩ := h3 y (List.mem_of_getElem? hy2)
      refine ⟨l2, h4 _, rfl, cl_app (h6 _) h5 (cut j) ?_⟩
      rw [tk2, List.map_append, ← List.append_assoc]; rfl
    · rintro st rfl
      rw [List.take_length, tk, List.flatMap_append]
      simp
  · rintro st rfl
    rw [List.take_length]
    exact h
theorem k_comp2 {n : Nat} {own own1 : List Nat} {src src1 : Sv} {tg tg1 : Tg} {cond cond1 : Bv} {elt : Ev} {l : Lo} {st : Sto} {P : W → Sto → Prop} : Ok (eComp2 n own own1 src tg cond src1 tg1 cond1 elt l st) X P = Ok (src l st) X fun s st1 => Ok (cLoop s tg own cond (fun l1 st2 => (src1 l1 st2).bind fun s1 st3 => cLoop s1 tg1 own1 cond1 (cApp elt st1.c.length) l1 n 0 st3) l n 0 (st1.push (.lst []))) X fun _ st2 => P (.ref st1.c.length) st2 := by
  unfold eComp2; simp only [k_bind, k_ok]
/-- a list of earlier cells, walked -/
theorem live_at {k : Nat} {ws us : List W} (h : c[k]? = some (.lst ws)) (i : Nat) : (Src.live k).at (C (c ++ .lst us :: [])) i = some ws[i]? := by
  have hk := (List.getElem?_eq_some_iff.mp h).1
  have e : getL (C (c ++ .lst us :: [])) k = some ws := by
    unfold getL
    show (match (c ++ .lst us :: [])[k]? with | some (.lst ws) => some ws | some (.scr ws) => some ws | _ => none) = _
    rw [List.getElem?_append_left hk, h]
  show (getL (C (c ++ .lst us :: [])) k).map _ = _
  rw [e]; rfl
/-- a new list that is handed back -/
theorem c_trimL {ws : List W} {j : Nat} {P : W → Sto → Prop} (hj : g[j]? = some (.lst ws)) (hp : W.pures ws = true) : Ok (trim c.length (.ref (c.length + j)) (C (c ++ g))) X P = P (.ref c.length) (C (c ++ .lst ws :: [])) := by
  have e : (C (c ++ g)).c[c.length + j]? = some (.lst ws) := by
    show (c ++ g)[c.length + j]? = _
    rw [List.getElem?_append_right (Nat.le_add_right _ _), Nat.add_sub_cancel_left]; exact hj
  have : trim c.length (.ref (c.length + j)) (C (c ++ g)) = .ok (.ref c.length) (C (c ++ .lst ws :: [])) := by
    unfold trim
    rw [if_pos (show Sto.may _ _ = true from rfl), if_neg (by intro q; cases q)]
    dsimp only
    rw [if_pos (Nat.le_add_right _ _), e]
    dsimp only
    rw [if_pos hp]
    unfold Sto.cut Sto.push
    simp
  rw [this]; rfl
end
end LW

set_option Elab.async false
set_option linter.all false
set_option maxRecDepth 100000
set_option maxHeartbeats 4000000
namespace LW
open PySem PySem.W RB L2
local macro_rules | `(tactic| exists $es,*) => `(tactic| simp (config := {decide := false, implicitDefEqProofs := false}) only [k_ok, k_exc, k_err, k_ite, k_iteS, k_nx, k_rt, k_loc, k_lit, k_nil, k_cons, k_tup, k_lst, k_bin, k_eB, k_eU, k_call, k_tru, k_not, k_and, k_or, k_if, k_eAnd, k_eOr, k_eNot, k_val, k_chain, k_sNil, k_sSeq, k_sSet, tgName, tgTup, tgCons, tgNil, Option.bind_some, k_sDrop, k_sRet, k_sRetN, k_sIf, k_sBreak, k_sCont, k_sFor, k_sRaise, k_sTry, k_defn, k_vSeq, k_rng1, k_comp,
  v_add, v_sub, v_mul, v_mod, v_div, v_lt, v_le, v_gt, v_ge, v_eq, v_ne, v_neg, v_int, v_min,
  List.map_cons, List.map_nil, List.length_cons, List.length_nil, List.replicate_succ, List.replicate_zero, List.cons_append, List.nil_append, List.append_nil, List.getElem?_cons_succ, List.getElem?_cons_zero, List.set_cons_succ, List.set_cons_zero,
  Nat.reduceAdd, Nat.reduceSub, Nat.zero_add, decide_eq_true_eq, Bool.not_eq_true', decide_eq_false_iff_not, Bool.true_eq_false, Bool.false_eq_true, if_true, if_false, ite_true, ite_false, ite_self, reduceIte, Nat.reduceLeDiff, true_and, and_true, $[$es:term],*])
section
variable {c g : List Cell} {X : XP} {P : W → Sto → Prop}
theorem i0_fr (q : Rat) (st : Sto) (X : XP) (P : W → Sto → Prop) : Ok (wIx (frW q) (.int 0) st) X P = P (.int q.num) st := rfl
theorem i1_fr (q : Rat) (st : Sto) (X : XP) (P : W → Sto → Prop) : Ok (wIx (frW q) (.int 1) st) X P = P (.int (q.den : Nat)) st := rfl
theorem fr_pure (q : Rat) : W.pure (frW q) = true := rfl
theorem le2 : ([W.non, .non].length ≤ 1000) = True := eq_true (by decide)
theorem int_ok (z : Int) : F_is_integer [.int z] (C c) = .ok (.bl true) (C c) := by
  refine run_eq ?_
  unfold F_is_integer
  exists k_isi, tnOf, ans_int, ans_bool
  rw [c_trim0 rfl]; exact ⟨rfl, rfl⟩
theorem within_ok (z a b : Int) : F_is_integer_within [.int z, .int a, .int b] (C c) = .ok (.bl (decide (a ≤ z) && decide (z ≤ b))) (C c) := by
  refine run_eq ?_
  unfold F_is_integer_within
  exists kk (int_ok (c := c) z)
  by_cases h : a ≤ z
  · rw [if_pos h, c_trim0 rfl]; simp [h]
  · rw [if_neg h, c_trim0 rfl]; simp [h]
theorem seqOf_get {st : Sto} {x : W} {ws : List W} (h : seqOf st x = some ws) : x = .tup ws ∨ ∃ n, x = .ref n ∧ RB.getL st n = some ws := by
  cases x with
  | tup v => cases h; exact .inl rfl
  | ref n => exact .inr ⟨n, rfl, h⟩
  | _ => cases h
theorem tn_seq {st : Sto} {x : W} {ws : List W} (h : seqOf st x = some ws) : tnOf st x = some .tup ∨ tnOf st x = some .lst := by
  rcases seqOf_get h with rfl | ⟨n, rfl, h2⟩
  · exact .inl rfl
  · right
    clear h
    have h := h2
    unfold RB.getL at h
    show (match st.c[n]? with | some (.lst _) => some Tn.lst | some (.scr _) => some Tn.lst | some (.ins c _) => some (.cls c) | none => none) = _
    split at h
    · rename_i e; rw [e]
    · rename_i e; rw [e]
    · cases h
theorem seq_ok {x : W} {ws : List W} (h : seqOf (C c) x = some ws) : F_is_sequence [x] (C c) = .ok (.bl true) (C c) := by
  refine run_eq ?_
  unfold F_is_sequence
  rcases tn_seq h with e | e
  · exists k_isi, e, ans_list_tuple
    rw [c_trim0 rfl]; exact ⟨rfl, rfl⟩
  · exists k_isi, e, ans_list_tuple
    rw [c_trim0 rfl]; exact ⟨rfl, rfl⟩
theorem lenS {st : Sto} {x : W} {ws : List W} (h : seqOf st x = some ws) (X : XP) (P : W → Sto → Prop) : Ok (fLen [x] st) X P = P (.int (ws.length : Nat)) st := v_lenL (by intro z e; subst e; cases h) h
theorem tup3 {st : Sto} {x a b d : W} {t : Tgs} {l : Lo} (h : seqOf st x = some [a, b, d]) : tgTup 3 t x l st = t [a, b, d] l st := by
  rcases seqOf_get h with rfl | ⟨n, rfl, h2⟩
  · rfl
  · unfold tgTup; simp only [h2]; rfl
theorem tup2 {st : Sto} {x a b : W} {t : Tgs} {l : Lo} (h : seqOf st x = some [a, b]) : tgTup 2 t x l st = t [a, b] l st := by
  rcases seqOf_get h with rfl | ⟨n, rfl, h2⟩
  · rfl
  · unfold tgTup; simp only [h2]; rfl
theorem fr_coprime (q : Rat) : Nat.gcd q.num.natAbs q.den = 1 := q.reduced
theorem isfr_ok (q : Rat) : F_is_fraction [frW q] (C c) = .ok (.bl true) (C c) := by
  refine run_eq ?_
  unfold frW
  have hd : (0 : Int) < (q.den : Nat) := by have := q.den_pos; omega
  have ln : ∀ (X : XP) (P : W → Sto → Prop), Ok (fLen [.tup [.int q.num, .int (q.den : Nat)]] (C c)) X P = P (.int 2) (C c) := fun X P => rfl
  have gg : ∀ (X : XP) (P : W → Sto → Prop), Ok (fGcd [.int q.num, .int (q.den : Nat)] (C c)) X P = P (.int ((1 : Nat) : Int)) (C c) := fun X P => by
    show P (.int ((Nat.gcd q.num.natAbs (Int.natAbs (q.den : Nat)) : Nat) : Int)) (C c) = _
    rw [Int.natAbs_natCast, fr_coprime]
  have e1 : (((1 : Nat) : Int) = 1) = True := eq_true rfl
  unfold F_is_fraction
  exists kk (seq_ok (c := c) (x := .tup [.int q.num, .int (q.den : Nat)]) rfl), ln, kk (int_ok (c := c) q.num), kk (int_ok (c := c) (q.den : Nat)), gg, hd, truth, Bool.not_true, not_true_eq_false, e1, decide_true
  rw [c_trim0 rfl]
  exact ⟨rfl, rfl⟩
theorem amount_ok (q : Rat) : F_is_amount [frW q] (C c) = .ok (.bl (decide (0 ≤ q))) (C c) := by
  refine run_eq ?_
  unfold F_is_amount
  exists kk (isfr_ok (c := c) q), i0_fr
  rw [c_trim0 rfl]
  refine ⟨?_, rfl⟩
  congr 1
  exact decide_eq_decide.mpr Rat.num_nonneg
theorem fraction_ok {a : Int} {b : Nat} (h0 : 0 < b) (hb : b < 2 ^ 8000) : F_fraction [.int a, .int (b : Nat)] (C c) = .ok (frW (mkRat a b)) (C c) := by
  refine run_eq ?_
  unfold F_fraction
  have g0 : 0 < Nat.gcd a.natAbs b := Nat.gcd_pos_of_pos_right _ h0
  have gb : Nat.gcd a.natAbs b < 2 ^ 8000 := Nat.lt_of_le_of_lt (Nat.gcd_le_right _ h0) hb
  have gg : ∀ (X : XP) (P : W → Sto → Prop), Ok (fGcd [.int a, .int (b : Nat)] (C c)) X P = P (.int ((Nat.gcd a.natAbs b : Nat) : Int)) (C c) := fun X P => by
    show P (.int ((Nat.gcd a.natAbs (Int.natAbs (b : Nat)) : Nat) : Int)) (C c) = _
    rw [Int.natAbs_natCast]
  exists gg, div_bd g0 gb
  rw [c_trim0 rfl, frW_mk (by omega)]
  exact ⟨rfl, rfl⟩
set_option exponentiation.threshold 10000
theorem den_mul_lt {p q : Rat} (hp : Bq 4000 p) (hq : Bq 4000 q) : p.den * q.den < 2 ^ 8000 := by
  have := Nat.mul_lt_mul'' hp.2 hq.2
  rwa [← Nat.pow_add] at this
theorem bdn {p : Rat} (hp : Bq 4000 p) : ((p.den : Nat) : Int).natAbs < 2 ^ 4000 := by rw [Int.natAbs_natCast]; exact hp.2
theorem times_ok {p q : Rat} (hp : Bq 4000 p) (hq : Bq 4000 q) : F_times [frW p, frW q] (C c) = .ok (frW (p * q)) (C c) := by
  refine run_eq ?_
  unfold F_times
  have f := fraction_ok (c := c) (a := p.num * q.num) (b := p.den * q.den) (Nat.mul_pos p.den_pos q.den_pos) (den_mul_lt hp hq)
  rw [← Rat.mul_def', Int.natCast_mul] at f
  exists i0_fr, i1_fr, mul_bd hp.1 hq.1, mul_bd (bdn hp) (bdn hq), kk f
  rw [c_trim0 (fr_pure _)]
  exact ⟨rfl, rfl⟩
theorem minus_ok {p q : Rat} (hp : Bq 4000 p) (hq : Bq 4000 q) : F_minus [frW p, frW q] (C c) = .ok (frW (p - q)) (C c) := by
  refine run_eq ?_
  unfold F_minus
  have f := fraction_ok (c := c) (a := p.num * q.den - q.num * p.den) (b := p.den * q.den) (Nat.mul_pos p.den_pos q.den_pos) (den_mul_lt hp hq)
  rw [← Rat.sub_def', Int.natCast_mul] at f
  exists i0_fr, i1_fr, mul_bd hp.1 (bdn hq), mul_bd hq.1 (bdn hp), mul_bd (bdn hp) (bdn hq), kk f
  rw [c_trim0 (fr_pure _)]
  exact ⟨rfl, rfl⟩
theorem over_ok {p : Rat} (h : 0 < p) : F_one_over [frW p] (C c) = .ok (frW p⁻¹) (C c) := by
  refine run_eq ?_
  unfold F_one_over
  exists i0_fr, i1_fr, (by decide : (2 : Nat) ≤ 1000)
  rw [c_trim0 rfl, frW_inv h]
  exact ⟨rfl, rfl⟩
theorem below_ok {p q : Rat} (hp : Bq 4000 p) (hq : Bq 4000 q) : F_is_below [frW p, frW q] (C c) = .ok (.bl (decide (p < q))) (C c) := by
  refine run_eq ?_
  unfold F_is_below
  exists i0_fr, i1_fr, mul_bd hp.1 (bdn hq), mul_bd hq.1 (bdn hp)
  rw [c_trim0 rfl]
  refine ⟨?_, rfl⟩
  congr 1
  exact decide_eq_decide.mpr (Rat.lt_iff _ _).symm
end
end LW

set_option Elab.async false
set_option linter.all false
set_option maxRecDepth 100000
set_option maxHeartbeats 4000000
namespace LW
open PySem PySem.W RB L2
local macro_rules | `(tactic| exists $es,*) => `(tactic| simp (config := {decide := false, implicitDefEqProofs := false, maxSteps := 1000000}) only [k_ok, k_exc, k_err, k_ite, k_iteS, k_nx, k_rt, k_loc, k_lit, k_nil, k_cons, k_tup, k_lst, k_bin, k_eB, k_eU, k_call, k_tru, k_not, k_and, k_or, k_if, k_eAnd, k_eOr, k_eNot, k_val, k_chain, k_sNil, k_sSeq, k_sSet, tgName, tgCons, tgNil, Option.bind_some, k_sDrop, k_sRet, k_sRetN, k_sIf, k_sBreak, k_sCont, k_sFor, k_sRaise, k_sTry, k_defn, k_rng1, k_comp,
  v_add, v_sub, v_mul, v_mod, v_div, v_lt, v_le, v_gt, v_ge, v_eq, v_ne, v_neg, v_int, v_min,
  List.map_cons, List.map_nil, List.length_cons, List.length_nil, List.replicate_succ, List.replicate_zero, List.cons_append, List.nil_append, List.append_nil, List.getElem?_cons_succ, List.getElem?_cons_zero, List.set_cons_succ, List.set_cons_zero,
  Nat.reduceAdd, Nat.reduceSub, Nat.zero_add, decide_eq_true_eq, Bool.not_eq_true', decide_eq_false_iff_not, Bool.true_eq_false, Bool.false_eq_true, if_true, if_false, ite_true, ite_false, ite_self, reduceIte, Nat.reduceLeDiff, true_and, and_true, not_true_eq_false, not_false_eq_true, decide_true, decide_false, Bool.not_true, Bool.not_false, $[$es:term],*])
section
variable {c g : List Cell} {X : XP} {P : W → Sto → Prop}
theorem vseq {x : W} {ws : List W} {i : Nat} {l : Lo} (h : seqOf (C c) x = some ws) (hl : l[i]? = some (some x)) : ∃ s : Src, (∀ j, s.at (C c) j = some ws[j]?) ∧ ∀ (X : XP) (P : Src → Sto → Prop), Ok (vSeq (eLoc i) l (C c)) X P = P s (C c) := by
  rcases seqOf_get h with rfl | ⟨n, rfl, h2⟩
  · exact ⟨.fix ws, fun _ => rfl, fun X P => by rw [k_vSeq, k_loc, hl]⟩
  · refine ⟨.live n, fun j => ?_, fun X P => by rw [k_vSeq, k_loc, hl]; dsimp only; rw [h2]⟩
    show (RB.getL (C c) n).map _ = _
    rw [h2]; rfl
theorem plus_ok {p q : Rat} (hp : Bq 4000 p) (hq : Bq 4000 q) : F_plus [frW p, frW q] (C c) = .ok (frW (p + q)) (C c) := by
  refine run_eq ?_
  unfold F_plus
  have f := fraction_ok (c := c) (a := p.num * q.den + q.num * p.den) (b := p.den * q.den) (Nat.mul_pos p.den_pos q.den_pos) (den_mul_lt hp hq)
  rw [← Rat.add_def', Int.natCast_mul] at f
  exists i0_fr, i1_fr, mul_bd hp.1 (bdn hq), mul_bd hq.1 (bdn hp), mul_bd (bdn hp) (bdn hq), kk f
  rw [c_trim0 (fr_pure _)]
  exact ⟨rfl, rfl⟩
theorem total_ok {x : W} {xs : List Rat} (hx : seqOf (C c) x = some (xs.map frW)) (hl : xs.length < 1000000) (h : ∀ q ∈ xs, Bq 4000 q) (hs : ∀ i, Bq 4000 (sumQ (xs.take i))) : F_total [x] (C c) = .ok (frW (sumQ xs)) (C c) := by
  refine run_eq ?_
  unfold F_total
  obtain ⟨s, sat, vs⟩ := vseq (c := c) (i := 0) (l := [some x, some (.tup [.int 0, .int 1]), none]) hx rfl
  exists vs
  refine loop_fix (xs.map frW) (fun i l st => st = C c ∧ ∃ e : Option W, l = [some x, some (frW (sumQ (xs.take i))), e]) (fun i l st h => by rw [h.1]; exact sat i) ?_ ?_ 1000000 0 _ _ (by rw [List.length_map]; omega) (Nat.zero_le _) ⟨rfl, none, rfl⟩
  · rintro i w l st hw ⟨rfl, e, rfl⟩
    rw [List.getElem?_map] at hw
    cases ex : xs[i]? with
    | none => rw [ex] at hw; cases hw
    | some q =>
      rw [ex] at hw
      cases hw
      refine ⟨_, rfl, ?_⟩
      have tk : xs.take (i + 1) = xs.take i ++ [q] := by rw [List.take_succ, ex]; rfl
      exists kk (plus_ok (c := c) (hs i) (h q (List.mem_of_getElem? ex)))
      exact ⟨_, by rw [tk, sumQ_snoc]⟩
  · rintro l st ⟨rfl, e, rfl⟩
    rw [List.length_map, List.take_length]
    exists k_loc
    rw [c_trim0 (fr_pure _)]
    exact ⟨rfl, rfl⟩
theorem least_ok {x : W} {a : Rat} {xs : List Rat} (hx : seqOf (C c) x = some ((a :: xs).map frW)) (hl : xs.length < 100000) (h : ∀ q ∈ a :: xs, Bq 4000 q) : F_least_of [x] (C c) = .ok (frW (minQ a xs)) (C c) := by
  refine run_eq ?_
  unfold F_least_of
  have e0 : ∀ (X : XP) (P : W → Sto → Prop), Ok (wIx x (.int 0) (C c)) X P = P (frW a) (C c) := fun X P => v_ix hx (by rw [List.map_cons, atI_in (Int.le_refl 0) (by rw [List.length_cons]; omega)]; rfl)
  obtain ⟨s, sat, vs⟩ := vseq (c := c) (i := 0) (l := [some x, some (frW a), none]) hx rfl
  exists e0, vs
  have bm : ∀ i, Bq 4000 (minQ a ((a :: xs).take i)) := fun i => by
    have : ∀ (ys : List Rat) (b : Rat), Bq 4000 b → (∀ q ∈ ys, Bq 4000 q) → Bq 4000 (minQ b ys) := by
      intro ys
      induction ys with
      | nil => intro b hb _; exact hb
      | cons y r ih =>
        intro b hb hy
        refine ih _ ?_ fun q hq => hy q (List.mem_cons_of_mem _ hq)
        show Bq 4000 (if y < b then y else b)
        split
        · exact hy y (List.mem_cons_self ..)
        · exact hb
    exact this _ _ (h a (List.mem_cons_self ..)) fun q hq => h q (List.mem_of_mem_take hq)
  have fin : minQ a (a :: xs) = minQ a xs := by
    show List.foldl _ (if a < a then a else a) xs = _
    rw [if_neg Rat.lt_irrefl]; rfl
  refine loop_fix ((a :: xs).map frW) (fun i l st => st = C c ∧ ∃ e : Option W, l = [some x, some (frW (minQ a ((a :: xs).take i))), e]) (fun i l st h => by rw [h.1]; exact sat i) ?_ ?_ 1000000 0 _ _ (by rw [List.length_map, List.length_cons]; omega) (Nat.zero_le _) ⟨rfl, none, rfl⟩
  · rintro i w l st hw ⟨rfl, e, rfl⟩
    rw [List.getElem?_map] at hw
    cases ex : (a :: xs)[i]? with
    | none => rw [ex] at hw; cases hw
    | some q =>
      rw [ex] at hw
      cases hw
      refine ⟨_, rfl, ?_⟩
      have tk : (a :: xs).take (i + 1) = (a :: xs).take i ++ [q] := by rw [List.take_succ, ex]; rfl
      have mm : minQ a ((a :: xs).take (i + 1)) = if q < minQ a ((a :: xs).take i) then q else minQ a ((a :: xs).take i) := by
        rw [tk]; unfold minQ; rw [List.foldl_append]; rfl
      rw [mm]
      have bl := below_ok (c := c) (h q (List.mem_of_getElem? ex)) (bm i)
      by_cases hlt : q < minQ a ((a :: xs).take i)
      · rw [decide_eq_true hlt] at bl
        exists kk bl, truth
        exact ⟨_, by rw [if_pos hlt]⟩
      · rw [decide_eq_false hlt] at bl
        exists kk bl, truth
        exact ⟨_, by rw [if_neg hlt]⟩
  · rintro l st ⟨rfl, e, rfl⟩
    rw [List.length_map, List.take_length, fin]
    exists k_loc
    rw [c_trim0 (fr_pure _)]
    exact ⟨rfl, rfl⟩
end
end LW

set_option Elab.async false
set_option linter.all false
set_option maxRecDepth 100000
set_option maxHeartbeats 4000000
namespace LW
open PySem PySem.W RB L2
local macro_rules | `(tactic| exists $es,*) => `(tactic| simp (config := {decide := false, implicitDefEqProofs := false, maxSteps := 1000000}) only [k_ok, k_exc, k_err, k_ite, k_iteS, k_nx, k_rt, k_loc, k_lit, k_nil, k_cons, k_tup, k_lst, k_bin, k_eB, k_eU, k_call, k_tru, k_not, k_and, k_or, k_if, k_eAnd, k_eOr, k_eNot, k_val, k_chain, k_sNil, k_sSeq, k_sSet, tgName, tgCons, tgNil, Option.bind_some, k_sDrop, k_sRet, k_sRetN, k_sIf, k_sBreak, k_sCont, k_sFor, k_sRaise, k_sTry, k_defn, k_rng1, k_comp,
  v_add, v_sub, v_mul, v_mod, v_div, v_lt, v_le, v_gt, v_ge, v_eq, v_ne, v_neg, v_int, v_min,
  List.map_cons, List.map_nil, List.length_cons, List.length_nil, List.replicate_succ, List.replicate_zero, List.cons_append, List.nil_append, List.append_nil, List.getElem?_cons_succ, List.getElem?_cons_zero, List.set_cons_succ, List.set_cons_zero,
  Nat.reduceAdd, Nat.reduceSub, Nat.zero_add, decide_eq_true_eq, Bool.not_eq_true', decide_eq_false_iff_not, Bool.true_eq_false, Bool.false_eq_true, if_true, if_false, ite_true, ite_false, ite_self, reduceIte, Nat.reduceLeDiff, true_and, and_true, not_true_eq_false, not_false_eq_true, decide_true, decide_false, Bool.not_true, Bool.not_false, $[$es:term],*])
section
variable {c g : List Cell} {X : XP} {P : W → Sto → Prop}
set_option exponentiation.threshold 10000
/-- Euclid's steps: after two of them the second number is at most half -/
theorem half_mod {x y : Nat} (h : 0 < y) (hyx : y ≤ x) : 2 * (x % y) ≤ x := by
  have h1 := Nat.mod_lt x h
  have h2 := Nat.div_add_mod x y
  have h3 : 1 ≤ x / y := (Nat.one_le_div_iff h).mpr hyx
  have h4 := Nat.mul_le_mul_left y h3
  omega
theorem gcd_ok {a b B : Nat} (hb : b < 2 ^ B) (hB : B ≤ 20000) : F__law_gcd [.int (a : Nat), .int (b : Nat)] (C c) = .ok (.int ((Nat.gcd a b : Nat) : Int)) (C c) := by
  refine run_eq ?_
  unfold F__law_gcd
  have tl : ∀ (x : Nat) (y e d : Option W), x = Nat.gcd a b → Ok (fAbs [.int (x : Nat)] (C c)) nX fun w st' => Ok (trim c.length w st') nX fun b_1 t => b_1 = W.int ((Nat.gcd a b : Nat) : Int) ∧ t = C c := fun x y e d h => by
    have : fAbs [.int (x : Nat)] (C c) = .ok (.int (x : Nat)) (C c) := by
      show Res.ok (W.int (if (x : Int) < 0 then -(x : Int) else x)) (C c) = _
      rw [if_neg (by omega)]
    rw [this, k_ok, c_trim0 rfl, h]
    exact ⟨rfl, rfl⟩
  exists (by decide : (-1000000 : Int) ≤ 100000), (by decide : (100000 : Int) ≤ 1000000)
  have start : ∃ (x y : Nat) (e d : Option W), [some (W.int (a : Nat)), some (W.int (b : Nat)), none, none] = [some (.int (x : Nat)), some (.int (y : Nat)), e, d] ∧ C c = C c ∧ Nat.gcd x y = Nat.gcd a b ∧ 0 ≤ 2 * B + 1 ∧ (∀ j, 0 = 2 * j → y < 2 ^ (B - j)) ∧ (∀ j, 0 = 2 * j + 1 → x < 2 ^ (B - j) ∧ y < x) := by
    refine ⟨a, b, none, none, rfl, rfl, rfl, Nat.zero_le _, fun j hj => ?_, fun j hj => by omega⟩
    have : j = 0 := by omega
    subst this
    exact hb
  refine loop_fix (upFrom 0 100000) (fun i l st => ∃ (x y : Nat) (e d : Option W), l = [some (.int (x : Nat)), some (.int (y : Nat)), e, d] ∧ st = C c ∧ Nat.gcd x y = Nat.gcd a b ∧ i ≤ 2 * B + 1 ∧ (∀ j, i = 2 * j → y < 2 ^ (B - j)) ∧ (∀ j, i = 2 * j + 1 → x < 2 ^ (B - j) ∧ y < x)) (fun _ _ _ _ => rfl) ?_ ?_ 1000000 0 _ _ (by rw [up_len]; omega) (Nat.zero_le _) start
  · rintro i w l st hw ⟨x, y, e, d, rfl, rfl, h1, h2, h3, h4⟩
    refine ⟨_, rfl, ?_⟩
    by_cases h0 : ((y : Nat) : Int) = 0
    · exists h0
      have : y = 0 := by omega
      subst this
      rw [Nat.gcd_zero_right] at h1
      exact tl x none none none h1
    · have hy : (0 : Int) < (y : Nat) := by omega
      have hy' : 0 < y := by omega
      exists h0, hy
      have hlt := Nat.mod_lt x hy'
      refine ⟨y, x % y, some w, some (.int (x : Nat)), by rw [Int.natCast_emod], ?_, ?_, ?_, ?_⟩
      · rw [← h1, Nat.gcd_comm y (x % y), ← Nat.gcd_rec, Nat.gcd_comm]
      · rcases Nat.lt_or_ge i (2 * B + 1) with q | q
        · omega
        · obtain ⟨q1, q2⟩ := h4 B (by omega)
          rw [Nat.sub_self, Nat.pow_zero] at q1
          omega
      · intro j hj
        obtain ⟨k, rfl⟩ : ∃ k, j = k + 1 := ⟨j - 1, by omega⟩
        obtain ⟨q1, q2⟩ := h4 k (by omega)
        have hh := half_mod hy' (Nat.le_of_lt q2)
        have hk : k < B := by
          rcases Nat.lt_or_ge k B with z | z
          · exact z
          · have e1 : B - k = 0 := by omega
            rw [e1, Nat.pow_zero] at q1
            omega
        have e2 : B - k = (B - (k + 1)) + 1 := by omega
        rw [e2, Nat.pow_succ] at q1
        generalize 2 ^ (B - (k + 1)) = z at q1 ⊢
        omega
      · intro j hj
        have q1 := h3 j (by omega)
        exact ⟨q1, hlt⟩
  · rintro l st ⟨x, y, e, d, rfl, rfl, h1, h2, h3, h4⟩
    rw [up_len] at h2
    omega
theorem abs_ok (a : Int) (X : XP) (P : W → Sto → Prop) : Ok (fAbs [.int a] (C c)) X P = P (.int (a.natAbs : Nat)) (C c) := by
  show P (W.int (if a < 0 then -a else a)) (C c) = _
  congr 2
  split <;> omega
theorem lfrac_ok {a : Int} {b : Nat} (h0 : 0 < b) (hb : b < 2 ^ 8000) : F__law_frac [.int a, .int (b : Nat)] (C c) = .ok (frW (mkRat a b)) (C c) := by
  refine run_eq ?_
  unfold F__law_frac
  have g0 : 0 < Nat.gcd a.natAbs b := Nat.gcd_pos_of_pos_right _ h0
  have gb : Nat.gcd a.natAbs b < 2 ^ 8000 := Nat.lt_of_le_of_lt (Nat.gcd_le_right _ h0) hb
  have h1 : ¬ (((b : Nat) : Int) < 0) := by omega
  exists h1, abs_ok (c := c), kk (gcd_ok (c := c) (a := a.natAbs) hb (by decide)), div_bd g0 gb
  rw [c_trim0 rfl, frW_mk (by omega)]
  exact ⟨rfl, rfl⟩
theorem lplus_ok {p q : Rat} (hp : Bq 4000 p) (hq : Bq 4000 q) : F__law_plus [frW p, frW q] (C c) = .ok (frW (p + q)) (C c) := by
  refine run_eq ?_
  unfold F__law_plus
  have f := lfrac_ok (c := c) (a := p.num * q.den + q.num * p.den) (b := p.den * q.den) (Nat.mul_pos p.den_pos q.den_pos) (den_mul_lt hp hq)
  rw [← Rat.add_def', Int.natCast_mul] at f
  exists i0_fr, i1_fr, mul_bd hp.1 (bdn hq), mul_bd hq.1 (bdn hp), mul_bd (bdn hp) (bdn hq), kk f
  rw [c_trim0 (fr_pure _)]
  exact ⟨rfl, rfl⟩
theorem ltimes_ok {p q : Rat} (hp : Bq 4000 p) (hq : Bq 4000 q) : F__law_times [frW p, frW q] (C c) = .ok (frW (p * q)) (C c) := by
  refine run_eq ?_
  unfold F__law_times
  have f := lfrac_ok (c := c) (a := p.num * q.num) (b := p.den * q.den) (Nat.mul_pos p.den_pos q.den_pos) (den_mul_lt hp hq)
  rw [← Rat.mul_def', Int.natCast_mul] at f
  exists i0_fr, i1_fr, mul_bd hp.1 hq.1, mul_bd (bdn hp) (bdn hq), kk f
  rw [c_trim0 (fr_pure _)]
  exact ⟨rfl, rfl⟩
theorem lminus_ok {p q : Rat} (hp : Bq 4000 p) (hq : Bq 4000 q) : F__law_minus [frW p, frW q] (C c) = .ok (frW (p - q)) (C c) := by
  refine run_eq ?_
  unfold F__law_minus
  have f : F__law_plus [frW p, .tup [.int (-q.num), .int (q.den : Nat)]] (C c) = .ok (frW (p - q)) (C c) := by
    have e := lplus_ok (c := c) hp (bd_neg hq)
    rw [← Rat.sub_eq_add_neg] at e
    have e2 : frW (-q) = .tup [.int (-q.num), .int (q.den : Nat)] := by unfold frW; rw [Rat.neg_num, Rat.neg_den]
    rw [e2] at e
    exact e
  exists i0_fr, i1_fr, (by decide : (2 : Nat) ≤ 1000), kk f
  rw [c_trim0 (fr_pure _)]
  exact ⟨rfl, rfl⟩
theorem lbelow_ok {p q : Rat} (hp : Bq 4000 p) (hq : Bq 4000 q) : F__law_below [frW p, frW q] (C c) = .ok (.bl (decide (p < q))) (C c) := by
  refine run_eq ?_
  unfold F__law_below
  exists i0_fr, i1_fr, mul_bd hp.1 (bdn hq), mul_bd hq.1 (bdn hp)
  rw [c_trim0 rfl]
  refine ⟨?_, rfl⟩
  congr 1
  exact decide_eq_decide.mpr (Rat.lt_iff _ _).symm
end
end LW

set_option Elab.async false
set_option linter.all false
set_option maxRecDepth 100000
set_option maxHeartbeats 4000000
namespace LW
open PySem PySem.W RB L2
local macro_rules | `(tactic| exists $es,*) => `(tactic| simp (config := {decide := false, implicitDefEqProofs := false}) only [k_ok, k_exc, k_err, k_ite, k_iteS, k_nx, k_rt, k_loc, k_lit, k_nil, k_cons, k_tup, k_lst, k_bin, k_eB, k_eU, k_call, k_tru, k_not, k_and, k_or, k_if, k_eAnd, k_eOr, k_eNot, k_val, k_chain, k_sNil, k_sSeq, k_sSet, tgName, tgTup, tgCons, tgNil, Option.bind_some, k_sDrop, k_sRet, k_sRetN, k_sIf, k_sBreak, k_sCont, k_sFor, k_sRaise, k_sTry, k_defn, k_vSeq, k_rng1, k_comp,
  v_add, v_sub, v_mul, v_mod, v_div, v_lt, v_le, v_gt, v_ge, v_eq, v_ne, v_neg, v_int, v_min,
  List.map_cons, List.map_nil, List.length_cons, List.length_nil, List.replicate_succ, List.replicate_zero, List.cons_append, List.nil_append, List.append_nil, List.getElem?_cons_succ, List.getElem?_cons_zero, List.set_cons_succ, List.set_cons_zero,
  Nat.reduceAdd, Nat.reduceSub, Nat.zero_add, decide_eq_true_eq, Bool.not_eq_true', decide_eq_false_iff_not, Bool.true_eq_false, Bool.false_eq_true, if_true, if_false, ite_true, ite_false, ite_self, reduceIte, Nat.reduceLeDiff, true_and, and_true, $[$es:term],*])
section
variable {c g : List Cell} {X : XP} {P : W → Sto → Prop}
theorem so_num (d : Nat) (a b : Int) : F__law_so (d + 1) [.int a, .int b] (C c) = .ok (.bl (decide (a = b))) (C c) := by
  refine run_eq ?_
  unfold F__law_so
  have w : ∀ (st : Sto) (X : XP) (P : W → Sto → Prop), Ok (wIsN (.int b) .non st) X P = P (.bl false) st := fun st X P => rfl
  exists w, k_isi, tnOf, ans_tuple, ans_bool, ans_int, truth
  rw [c_trim0 rfl]
  exact ⟨rfl, rfl⟩
theorem so_bl (d : Nat) (a b : Bool) : F__law_so (d + 1) [.bl a, .bl b] (C c) = .ok (.bl (decide (a = b))) (C c) := by
  cases a <;> cases b <;> {
    refine run_eq ?_
    unfold F__law_so
    have w : ∀ (x : Bool) (st : Sto) (X : XP) (P : W → Sto → Prop), Ok (wIsN (.bl x) .non st) X P = P (.bl false) st := fun x st X P => rfl
    have e : ∀ (x y : Bool) (st : Sto) (X : XP) (P : W → Sto → Prop), Ok (wEq (.bl x) (.bl y) st) X P = P (.bl (decide (x = y))) st := fun x y st X P => by cases x <;> cases y <;> rfl
    exists w, k_isi, tnOf, ans_tuple, ans_bool, ans_int, truth, e
    rw [c_trim0 rfl]
    exact ⟨rfl, rfl⟩ }
theorem so_tup (d : Nat) (as bs : List W) (hl : bs.length < 1000000) (r : Nat → Bool) (h : ∀ (i : Nat) (a b : W), as[i]? = some a → bs[i]? = some b → F__law_so d [a, b] (C c) = .ok (.bl (r i)) (C c)) :
    F__law_so (d + 1) [.tup as, .tup bs] (C c) = .ok (.bl (decide (as.length = bs.length) && (List.range bs.length).all r)) (C c) := by
  refine run_eq ?_
  unfold F__law_so
  have w : ∀ (st : Sto) (X : XP) (P : W → Sto → Prop), Ok (wIsN (.tup bs) .non st) X P = P (.bl false) st := fun st X P => rfl
  have tn : ∀ (l : List W) (st : Sto), tnOf st (.tup l) = some .tup := fun l st => rfl
  have ln : ∀ (l : List W) (st : Sto) (X : XP) (P : W → Sto → Prop), Ok (fLen [.tup l] st) X P = P (.int (l.length : Nat)) st := fun l st X P => v_lenL (by intro z h; cases h) rfl
  by_cases e : as.length = bs.length
  · have e1 : (((as.length : Nat) : Int) = (bs.length : Nat)) = True := eq_true (by omega)
    have e2 : (-1000000 ≤ ((bs.length : Nat) : Int) ∧ ((bs.length : Nat) : Int) ≤ 1000000) = True := eq_true (by omega)
    exists w, k_isi, tn, ans_tuple, truth, ln, e1, decide_true, Bool.not_true, e2, Int.toNat_natCast
    rw [decide_eq_true e, Bool.true_and]
    refine loop_fix (upFrom 0 bs.length) (fun i l st => (∃ a : Option W, l = [some (.tup as), some (.tup bs), a]) ∧ st = C c ∧ ∀ j < i, r j = true) (fun _ _ _ _ => rfl) ?_ ?_ 1000000 0 _ _ (by rw [up_len]; omega) (Nat.zero_le _) ⟨⟨none, rfl⟩, rfl, fun j hj => by omega⟩
    · rintro i w l st hw ⟨⟨a, rfl⟩, rfl, hj⟩
      obtain ⟨hi, rfl⟩ := up_get hw
      refine ⟨_, rfl, ?_⟩
      obtain ⟨x, hx⟩ : ∃ x, as[i]? = some x := ⟨as[i]'(by omega), List.getElem?_eq_getElem _⟩
      obtain ⟨y, hy⟩ : ∃ y, bs[i]? = some y := ⟨bs[i]'(by omega), List.getElem?_eq_getElem _⟩
      have ix : ∀ (l : List W) (z : W), l[i]? = some z → ∀ (X : XP) (P : W → Sto → Prop), Ok (wIx (.tup l) (.int (i : Nat)) (C c)) X P = P z (C c) := fun l z hz X P => by
        have hlt : i < l.length := by
          by_cases q : i < l.length
          · exact q
          · rw [List.getElem?_eq_none (by omega)] at hz; cases hz
        unfold wIx seqOf
        dsimp only
        rw [atI_in (by omega) (by omega), Int.toNat_natCast, hz]
        rfl
      have hh := h i x y hx hy
      cases hr : r i
      · rw [hr] at hh
        exists ix as x hx, ix bs y hy, kk hh, truth, Bool.not_false
        rw [c_trim0 rfl]
        refine ⟨?_, rfl⟩
        have : (List.range bs.length).all r = false := by
          rw [List.all_eq_false]
          exact ⟨i, List.mem_range.mpr (by omega), by rw [hr]; decide⟩
        rw [this]
      · rw [hr] at hh
        exists ix as x hx, ix bs y hy, kk hh, truth, Bool.not_true
        refine ⟨⟨_, rfl⟩, fun j hj2 => ?_⟩
        rcases Nat.lt_or_eq_of_le (Nat.lt_succ_iff.mp hj2) with z | rfl
        · exact hj j z
        · exact hr
    · rintro l st ⟨⟨a, rfl⟩, rfl, hj⟩
      rw [up_len] at hj
      have : (List.range bs.length).all r = true := List.all_eq_true.mpr fun j hj2 => hj j (List.mem_range.mp hj2)
      rw [this]
      dsimp only
      rw [c_trim0 rfl]
      exact ⟨rfl, rfl⟩
  · have e1 : (((as.length : Nat) : Int) = (bs.length : Nat)) = False := eq_false (by omega)
    exists w, k_isi, tn, ans_tuple, truth, ln, e1, decide_false, Bool.not_true, Bool.not_false
    rw [c_trim0 rfl, decide_eq_false e, Bool.false_and]
    exact ⟨rfl, rfl⟩
/-- a value without lists, of depth below d -/
def plainW : Nat → W → Bool
  | 0, _ => false
  | d + 1, .tup ws => decide (ws.length < 1000000) && ws.all (plainW d)
  | _ + 1, .ref _ => false
  | _ + 1, .str a => PyData.strOk a
  | _ + 1, _ => true
theorem so_non (d : Nat) : F__law_so (d + 1) [.non, .non] (C c) = .ok (.bl true) (C c) := by
  refine run_eq ?_
  unfold F__law_so
  have w : ∀ (st : Sto) (X : XP) (P : W → Sto → Prop), Ok (wIsN .non .non st) X P = P (.bl true) st := fun st X P => rfl
  exists w
  rw [c_trim0 rfl]
  exact ⟨rfl, rfl⟩
theorem so_str (d : Nat) (a : Str) (ha : PyData.strOk a = true) : F__law_so (d + 1) [.str a, .str a] (C c) = .ok (.bl true) (C c) := by
  refine run_eq ?_
  unfold F__law_so
  have w : ∀ (st : Sto) (X : XP) (P : W → Sto → Prop), Ok (wIsN (.str a) .non st) X P = P (.bl false) st := fun st X P => rfl
  have e : ∀ (st : Sto) (X : XP) (P : W → Sto → Prop), Ok (wEq (.str a) (.str a) st) X P = P (.bl true) st := fun st X P => by
    have d : datOf st (.str a) = some (.str a) := by
      show (if PyData.strOk a = true then some (PyData.str a) else none) = _
      rw [if_pos ha]
    unfold wEq
    rw [d]
    show P (.bl (PyData.eqv (.str a) (.str a))) st = _
    have : PyData.eqv (.str a) (.str a) = true := by simp [PyData.eqv]
    rw [this]
  exists w, k_isi, tnOf, ans_tuple, ans_bool, ans_int, ans_str, truth, e
  rw [c_trim0 rfl]
  exact ⟨rfl, rfl⟩
theorem so_self : ∀ (d : Nat) (v : W), plainW d v = true → F__law_so d [v, v] (C c) = .ok (.bl true) (C c)
  | 0, v, h => by cases h
  | d + 1, .non, _ => so_non d
  | d + 1, .bl b, _ => by rw [so_bl, decide_eq_true rfl]
  | d + 1, .int i, _ => by rw [so_num, decide_eq_true rfl]
  | d + 1, .str a, h => so_str d a h
  | d + 1, .ref n, h => by cases h
  | d + 1, .tup ws, h => by
    unfold plainW at h
    simp only [Bool.and_eq_true, decide_eq_true_eq, List.all_eq_true] at h
    rw [so_tup d ws ws h.1 (fun _ => true) fun i x y hx hy => ?_, decide_eq_true rfl, Bool.true_and]
    · congr 2
      exact List.all_eq_true.mpr fun _ _ => rfl
    · rw [hx] at hy
      cases hy
      exact so_self d x (h.2 x (List.mem_of_getElem? hx))
end
end LW

set_option Elab.async false
set_option linter.all false
set_option maxRecDepth 100000
set_option maxHeartbeats 4000000
namespace LW
open PySem PySem.W RB L2
local macro_rules | `(tactic| exists $es,*) => `(tactic| simp (config := {decide := false, implicitDefEqProofs := false}) only [k_ok, k_exc, k_err, k_ite, k_iteS, k_nx, k_rt, k_loc, k_lit, k_nil, k_cons, k_tup, k_lst, k_bin, k_eB, k_eU, k_call, k_tru, k_not, k_and, k_or, k_if, k_eAnd, k_eOr, k_eNot, k_val, k_chain, k_sNil, k_sSeq, k_sSet, tgName, tgTup, tgCons, tgNil, Option.bind_some, k_sDrop, k_sRet, k_sRetN, k_sIf, k_sBreak, k_sCont, k_sFor, k_sRaise, k_sTry, k_defn, k_vSeq, k_rng1, k_comp,
  v_add, v_sub, v_mul, v_mod, v_div, v_lt, v_le, v_gt, v_ge, v_eq, v_ne, v_neg, v_int, v_min,
  List.map_cons, List.map_nil, List.length_cons, List.length_nil, List.replicate_succ, List.replicate_zero, List.cons_append, List.nil_append, List.append_nil, List.getElem?_cons_succ, List.getElem?_cons_zero, List.set_cons_succ, List.set_cons_zero,
  Nat.reduceAdd, Nat.reduceSub, Nat.zero_add, decide_eq_true_eq, Bool.not_eq_true', decide_eq_false_iff_not, Bool.true_eq_false, Bool.false_eq_true, if_true, if_false, ite_true, ite_false, ite_self, reduceIte, Nat.reduceLeDiff, true_and, and_true, $[$es:term],*])
section
variable {c g : List Cell} {X : XP} {P : W → Sto → Prop}
def leaf : W → Bool
  | .tup _ => false
  | .ref _ => false
  | _ => true
theorem loose_leaf {d : Nat} {w : W} {t : Int} (h : leaf w = true) : F__law_loose (d + 1) [w, .int t] (C c) = .ok w (C c) := by
  refine run_eq ?_
  unfold F__law_loose
  cases w with
  | tup _ => cases h
  | ref _ => cases h
  | non => exists k_isi, tnOf, ans_tuple, truth; rw [c_trim0 rfl]; exact ⟨rfl, rfl⟩
  | bl b => exists k_isi, tnOf, ans_tuple, truth; rw [c_trim0 rfl]; exact ⟨rfl, rfl⟩
  | int b => exists k_isi, tnOf, ans_tuple, truth; rw [c_trim0 rfl]; exact ⟨rfl, rfl⟩
  | str b => exists k_isi, tnOf, ans_tuple, truth; rw [c_trim0 rfl]; exact ⟨rfl, rfl⟩
theorem loose_in {d : Nat} {ws : List W} {t : Int} (hw : ws.length < 1000) (hp : W.pures ws = true) (h : ∀ w ∈ ws, ∀ us, F__law_loose d [w, .int (t + 1)] (C (c ++ .lst us :: [])) = .ok w (C (c ++ .lst us :: []))) :
    F__law_loose (d + 1) [.tup ws, .int t] (C c) = if t % 2 = 0 then .ok (.ref c.length) (C (c ++ .lst ws :: [])) else .ok (.tup ws) (C c) := by
  have pm : ∀ w ∈ ws, W.pure w = true := by
    clear h hw
    induction ws with
    | nil => intro w hw; cases hw
    | cons a r ih =>
      have hp2 : (W.pure a && W.pures r) = true := hp
      rw [Bool.and_eq_true] at hp2
      intro w hw
      rcases List.mem_cons.mp hw with rfl | hw
      · exact hp2.1
      · exact ih hp2.2 w hw
  have tn : ∀ (l : List W) (st : Sto), tnOf st (.tup l) = some .tup := fun l st => rfl
  have tp : (0 : Int) < 2 := by decide
  have key : ∀ (a : W) (D : Sto), (if t % 2 = 0 then a = .ref c.length ∧ D = C (c ++ .lst ws :: []) else a = .tup ws ∧ D = C c) → True := fun _ _ _ => trivial
  by_cases ht : t % 2 = 0
  · rw [if_pos ht]
    refine run_eq ?_
    unfold F__law_loose
    exists k_isi, tn, ans_tuple, truth
    refine cl_map (c := c) (ws := ws) (fun _ _ => rfl) (fun w => w) (by omega) (fun w hw2 => ⟨_, fun _ => rfl, pm w hw2, fun us => run_eq ?_⟩) ?_
    · exists wipeL, kk (h w hw2 us)
    · rw [List.map_id']
      exists tp, ht
      have := c_trimL (c := c) (g := [Cell.lst ws]) (j := 0) (P := fun b t => b = W.ref c.length ∧ t = C (c ++ .lst ws :: [])) (X := nX) rfl hp
      exact (show _ = _ from this).mpr ⟨rfl, rfl⟩
  · rw [if_neg ht]
    refine run_eq ?_
    unfold F__law_loose
    exists k_isi, tn, ans_tuple, truth
    refine cl_map (c := c) (ws := ws) (fun _ _ => rfl) (fun w => w) (by omega) (fun w hw2 => ⟨_, fun _ => rfl, pm w hw2, fun us => run_eq ?_⟩) ?_
    · exists wipeL, kk (h w hw2 us)
    · rw [List.map_id']
      exists tp, ht
      rw [v_tup (c_seq (ws := ws)), c_trim (show W.pure (.tup ws) = true by simp only [W.pure]; exact hp)]
      exact ⟨rfl, rfl⟩
/-- a tuple of leaves at an odd turn is itself -/
theorem loose_flat {d : Nat} {ws : List W} {t : Int} (hw : ws.length < 1000) (hl : ∀ w ∈ ws, leaf w = true) (hp : W.pures ws = true) (ht : ¬ t % 2 = 0) : F__law_loose (d + 2) [.tup ws, .int t] (C c) = .ok (.tup ws) (C c) := by
  rw [loose_in (d := d + 1) hw hp fun w hw2 us => loose_leaf (hl w hw2), if_neg ht]
end
end LW

set_option Elab.async false
set_option linter.all false
set_option maxRecDepth 100000
set_option maxHeartbeats 4000000
namespace LW
open PySem PySem.W RB L2
local macro_rules | `(tactic| exists $es,*) => `(tactic| simp (config := {decide := false, implicitDefEqProofs := false}) only [k_ok, k_exc, k_err, k_ite, k_iteS, k_nx, k_rt, k_loc, k_lit, k_nil, k_cons, k_tup, k_lst, k_bin, k_eB, k_eU, k_call, k_tru, k_not, k_and, k_or, k_if, k_eAnd, k_eOr, k_eNot, k_val, k_chain, k_sNil, k_sSeq, k_sSet, tgName, tgTup, tgCons, tgNil, Option.bind_some, k_sDrop, k_sRet, k_sRetN, k_sIf, k_sBreak, k_sCont, k_sFor, k_sRaise, k_sTry, k_defn, k_vSeq, k_rng1, k_comp,
  v_add, v_sub, v_mul, v_mod, v_div, v_lt, v_le, v_gt, v_ge, v_eq, v_ne, v_neg, v_int, v_min,
  List.map_cons, List.map_nil, List.length_cons, List.length_nil, List.replicate_succ, List.replicate_zero, List.cons_append, List.nil_append, List.append_nil, List.getElem?_cons_succ, List.getElem?_cons_zero, List.set_cons_succ, List.set_cons_zero,
  Nat.reduceAdd, Nat.reduceSub, Nat.zero_add, decide_eq_true_eq, Bool.not_eq_true', decide_eq_false_iff_not, Bool.true_eq_false, Bool.false_eq_true, if_true, if_false, ite_true, ite_false, ite_self, reduceIte, Nat.reduceLeDiff, true_and, and_true, $[$es:term],*])
section
variable {ns : List W} {row : List Int} {p : Int} {rest g : List Cell}
theorem kept_frac {v : Int} {b : Nat} (h0 : 0 ≤ v) (h1 : v < b) (hb : b ≤ 1000) : (0 : Rat) ≤ mkRat v b ∧ mkRat v b < 1 ∧ (mkRat v b).den ≤ 1000 := by
  have hb0 : 0 < b := by omega
  have hp := Rat.natCast_pos.mpr hb0
  refine ⟨?_, ?_, ?_⟩
  · rw [Rat.mkRat_eq_div, Rat.div_def]
    exact Rat.mul_nonneg (Rat.intCast_nonneg.mpr h0) (Rat.le_of_lt (Rat.inv_pos.mpr hp))
  · rw [Rat.mkRat_eq_div, Rat.div_lt_iff hp, Rat.one_mul]
    exact Rat.intCast_lt_intCast.mpr h1
  · rw [Rat.den_mkRat, if_neg (by omega)]
    exact Nat.le_trans (Nat.div_le_self _ _) hb
theorem step_frac {v : Int} {b : Nat} (h0 : 0 < v) (h1 : v ≤ b) (hb : b ≤ 100) : (0 : Rat) < mkRat v b ∧ mkRat v b ≤ 1 ∧ (mkRat v b).den ≤ 100 := by
  have hb0 : 0 < b := by omega
  have hp := Rat.natCast_pos.mpr hb0
  refine ⟨?_, ?_, ?_⟩
  · rw [Rat.mkRat_eq_div, Rat.div_def]
    exact Rat.mul_pos (Rat.intCast_pos.mpr h0) (Rat.inv_pos.mpr hp)
  · rw [Rat.mkRat_eq_div]
    refine Rat.not_lt.mp fun h => ?_
    rw [Rat.lt_div_iff hp, Rat.one_mul] at h
    have : ((b : Nat) : Int) < v := Rat.intCast_lt_intCast.mp h
    omega
  · rw [Rat.den_mkRat, if_neg (by omega)]
    exact Nat.le_trans (Nat.div_le_self _ _) hb
theorem small8 {b : Nat} (h : b ≤ 1000) : b < 2 ^ 8000 := Nat.lt_of_lt_of_le (by omega : b < 2 ^ 10) (Nat.pow_le_pow_right (by decide) (by decide))
theorem menuKept {u : Int} {a b : Rat} (h2 : 0 ≤ u) (h3 : u < 5) (ha : 0 ≤ a ∧ a < 1 ∧ a.den ≤ 1000) (hb : 0 ≤ b ∧ b < 1 ∧ b.den ≤ 1000) :
    ∃ k : Rat, (0 ≤ k ∧ k < 1 ∧ k.den ≤ 1000) ∧ L2.atI [W.tup [.int 0, .int 1], .tup [.int 1, .int 10], .tup [.int 1, .int 3], frW a, frW b] u = some (frW k) := by
  have : u = 0 ∨ u = 1 ∨ u = 2 ∨ u = 3 ∨ u = 4 := by omega
  rcases this with rfl | rfl | rfl | rfl | rfl
  · exact ⟨mkRat 0 1, kept_frac (b := 1) (by decide) (by decide) (by decide), by rw [frW_lit (by decide) (by decide)]; rfl⟩
  · exact ⟨mkRat 1 10, kept_frac (b := 10) (by decide) (by decide) (by decide), by rw [frW_lit (by decide) (by decide)]; rfl⟩
  · exact ⟨mkRat 1 3, kept_frac (b := 3) (by decide) (by decide) (by decide), by rw [frW_lit (by decide) (by decide)]; rfl⟩
  · exact ⟨a, ha, rfl⟩
  · exact ⟨b, hb, rfl⟩
theorem menuStep {u : Int} {a b : Rat} (h2 : 0 ≤ u) (h3 : u < 6) (ha : 0 < a ∧ a ≤ 1 ∧ a.den ≤ 100) (hb : 0 < b ∧ b ≤ 1 ∧ b.den ≤ 100) :
    ∃ k : Rat, (0 < k ∧ k ≤ 1 ∧ k.den ≤ 100) ∧ L2.atI [W.tup [.int 1, .int 10], .tup [.int 1, .int 100], .tup [.int 1, .int 20], .tup [.int 1, .int 1], frW a, frW b] u = some (frW k) := by
  have : u = 0 ∨ u = 1 ∨ u = 2 ∨ u = 3 ∨ u = 4 ∨ u = 5 := by omega
  rcases this with rfl | rfl | rfl | rfl | rfl | rfl
  · exact ⟨mkRat 1 10, step_frac (b := 10) (by decide) (by decide) (by decide), by rw [frW_lit (by decide) (by decide)]; rfl⟩
  · exact ⟨mkRat 1 100, step_frac (b := 100) (by decide) (by decide) (by decide), by rw [frW_lit (by decide) (by decide)]; rfl⟩
  · exact ⟨mkRat 1 20, step_frac (b := 20) (by decide) (by decide) (by decide), by rw [frW_lit (by decide) (by decide)]; rfl⟩
  · exact ⟨mkRat 1 1, step_frac (b := 1) (by decide) (by decide) (by decide), by rw [frW_lit (by decide) (by decide)]; rfl⟩
  · exact ⟨a, ha, rfl⟩
  · exact ⟨b, hb, rfl⟩
theorem pool_ok (R : RowOk row) (hp : 0 ≤ p) (hat : p < 1000000) : ∃ (k s : Rat) (n : Nat), PoolQ k s ∧ (1 ≤ n ∧ n ≤ 4) ∧ F__law_pool [.ref 1, .ref 2] (S ns row p rest) = .ok (.tup [frW k, frW s, .int (n : Nat)]) (S ns row (p + 9) rest) := by
  obtain ⟨v1, hv1, e1⟩ := takeK (ns := ns) (p := p) R (by omega) (by omega) rest (lim := 990) (by omega)
  obtain ⟨w, hw⟩ : ∃ w : Nat, (w : Int) = 2 + v1 := ⟨(2 + v1).toNat, by omega⟩
  obtain ⟨v2, hv2, e2⟩ := takeK (ns := ns) (p := p + 1) R (by omega) (by omega) rest (lim := 99) (by omega)
  obtain ⟨v3, hv3, e3⟩ := takeK (ns := ns) (p := p + 1 + 1) R (by omega) (by omega) rest (lim := (w : Nat)) (by omega)
  have f1 : ∀ q, F__law_frac [.int v2, .int 100] (S ns row q rest) = .ok (frW (mkRat v2 100)) (S ns row q rest) := fun q => lfrac_ok (c := (S ns row q rest).c) (b := 100) (by decide) (small8 (by decide))
  have f2 : ∀ q, F__law_frac [.int v3, .int (w : Nat)] (S ns row q rest) = .ok (frW (mkRat v3 w)) (S ns row q rest) := fun q => lfrac_ok (c := (S ns row q rest).c) (b := w) (by omega) (small8 (by omega))
  generalize hc1 : Cell.lst [.tup [.int 0, .int 1], .tup [.int 1, .int 10], .tup [.int 1, .int 3], frW (mkRat v2 100), frW (mkRat v3 w)] = c1
  obtain ⟨v4, hv4, e4⟩ := takeK (ns := ns) (p := p + 1 + 1 + 1) R (by omega) (by omega) (rest ++ [c1]) (lim := 5) (by omega)
  obtain ⟨k, hk, m1⟩ := menuKept hv4.1 hv4.2 (kept_frac (b := 100) hv2.1 (by omega) (by decide)) (kept_frac hv3.1 hv3.2 (by omega))
  obtain ⟨v5, hv5, e5⟩ := takeK (ns := ns) (p := p + 1 + 1 + 1 + 1) R (by omega) (by omega) (rest ++ [c1]) (lim := 100) (by omega)
  obtain ⟨m, hm⟩ : ∃ m : Nat, (m : Int) = 1 + v5 := ⟨(1 + v5).toNat, by omega⟩
  obtain ⟨v6, hv6, e6⟩ := takeK (ns := ns) (p := p + 1 + 1 + 1 + 1 + 1) R (by omega) (by omega) (rest ++ [c1]) (lim := 7) (by omega)
  obtain ⟨v7, hv7, e7⟩ := takeK (ns := ns) (p := p + 1 + 1 + 1 + 1 + 1 + 1) R (by omega) (by omega) (rest ++ [c1]) (lim := (m : Nat)) (by omega)
  have f3 : ∀ q, F__law_frac [.int (1 + v6), .int 8] (S ns row q (rest ++ [c1])) = .ok (frW (mkRat (1 + v6) 8)) (S ns row q (rest ++ [c1])) := fun q => lfrac_ok (c := (S ns row q (rest ++ [c1])).c) (b := 8) (by decide) (small8 (by decide))
  have f4 : ∀ q, F__law_frac [.int (1 + v7), .int (m : Nat)] (S ns row q (rest ++ [c1])) = .ok (frW (mkRat (1 + v7) m)) (S ns row q (rest ++ [c1])) := fun q => lfrac_ok (c := (S ns row q (rest ++ [c1])).c) (b := m) (by omega) (small8 (by omega))
  generalize hc2 : Cell.lst [.tup [.int 1, .int 10], .tup [.int 1, .int 100], .tup [.int 1, .int 20], .tup [.int 1, .int 1], frW (mkRat (1 + v6) 8), frW (mkRat (1 + v7) m)] = c2
  obtain ⟨v8, hv8, e8⟩ := takeK (ns := ns) (p := p + 1 + 1 + 1 + 1 + 1 + 1 + 1) R (by omega) (by omega) (rest ++ [c1] ++ [c2]) (lim := 6) (by omega)
  obtain ⟨s, hs, m2⟩ := menuStep hv8.1 hv8.2 (step_frac (b := 8) (by omega : 0 < 1 + v6) (by omega) (by decide)) (step_frac (by omega : 0 < 1 + v7) (by omega) (by omega : m ≤ 100))
  obtain ⟨v9, hv9, e9⟩ := takeK (ns := ns) (p := p + 1 + 1 + 1 + 1 + 1 + 1 + 1 + 1) R (by omega) (by omega) (rest ++ [c1] ++ [c2]) (lim := 4) (by omega)
  obtain ⟨n, hn⟩ : ∃ n : Nat, (n : Int) = 1 + v9 := ⟨(1 + v9).toNat, by omega⟩
  refine ⟨k, s, n, ⟨hk.1, hk.2.1, hs.1, hs.2.1, hs.2.2, hk.2.2⟩, by omega, run_eq ?_⟩
  have x1 : ∀ q (X : XP) (P : W → Sto → Prop), Ok (wIx (.ref (rest.length + 1 + 1 + 1)) (.int v4) (S ns row q (rest ++ [c1]))) X P = P (frW k) (S ns row q (rest ++ [c1])) := fun q X P => by
    subst hc1
    exact v_ix (S_seq (g := [])) m1
  have x2 : ∀ q (X : XP) (P : W → Sto → Prop), Ok (wIx (.ref (rest.length + 1 + 1 + 1 + 1)) (.int v8) (S ns row q (rest ++ [c1] ++ [c2]))) X P = P (frW s) (S ns row q (rest ++ [c1] ++ [c2])) := fun q X P => by
    subst hc2
    have := S_seq (ns := ns) (row := row) (p := q) (rest := rest ++ [c1]) (g := []) (ws := [.tup [.int 1, .int 10], .tup [.int 1, .int 100], .tup [.int 1, .int 20], .tup [.int 1, .int 1], frW (mkRat (1 + v6) 8), frW (mkRat (1 + v7) m)])
    rw [List.length_append, List.length_singleton] at this
    exact v_ix this m2
  have ln : (rest ++ [c1]).length = rest.length + 1 := by simp
  unfold F__law_pool
  exists e1, hw.symm, e2, f1, kk (f1 _), e3, kk (f2 _), (by decide : (2 : Nat) ≤ 1000), (by decide : (3 : Nat) ≤ 1000), (by decide : (5 : Nat) ≤ 1000), hc1, S_len, S_push, e4, x1, e5, hm.symm, e6, kk (f3 _), e7, kk (f4 _), hc2, (by decide : (6 : Nat) ≤ 1000), ln, e8, x2, e9, hn.symm
  have ep : p + 1 + 1 + 1 + 1 + 1 + 1 + 1 + 1 + 1 = p + 9 := by omega
  rw [List.append_assoc, S_trim rfl, ep]
  exact ⟨rfl, rfl⟩
def iW (l : List Nat) : List W := l.map fun k => W.int (k : Nat)
theorem iW_len (l : List Nat) : (iW l).length = l.length := List.length_map ..
theorem iW_pure : ∀ l : List Nat, W.pures (iW l) = true
  | [] => rfl
  | a :: r => by show (W.pure (W.int _) && W.pures (iW r)) = true; rw [iW_pure r]; rfl
theorem iW_ints : ∀ l : List Nat, intsOf (iW l) = some (l.map fun k => ((k : Nat) : Int))
  | [] => rfl
  | a :: r => by show (intsOf (iW r)).map (((a : Nat) : Int) :: ·) = _; rw [iW_ints r]; rfl
theorem cast_sum : ∀ l : List Nat, (l.map fun k => ((k : Nat) : Int)).sum = ((l.sum : Nat) : Int)
  | [] => rfl
  | a :: r => by rw [List.map_cons, List.sum_cons, List.sum_cons, cast_sum r, Int.natCast_add]
theorem v_sumN {st : Sto} {x : W} {l : List Nat} (h : seqOf st x = some (iW l)) (X : XP) (P : W → Sto → Prop) : Ok (fSumS [x] st) X P = P (.int ((l.sum : Nat) : Int)) st := by
  unfold fSumS
  dsimp only
  rw [h, Option.bind_some, iW_ints]
  show P (.int _) st = _
  rw [cast_sum]
theorem k_ixw {o i e : Ev} {l : Lo} {st : Sto} {D : Po4} : OkS (sIxW o i e l st) D = Ok (e l st) (fun c p st => D.ex c p l st) fun v st1 => Ok (o l st1) (fun c p st => D.ex c p l st) fun x st2 => Ok (i l st2) (fun c p st => D.ex c p l st) fun y st3 => OkS (match x, y with
    | .ref n, .int k => match st3.c[n]? with
      | some (.lst us) => match ixN us.length k with | some j => RS.nx l (st3.put n (.lst (us.set j v)) (W.low n v)) | none => .err
      | _ => .err
    | _, _ => .err) D := by unfold sIxW; simp only [k_xs] <;> rfl
theorem iW_set (l : List Nat) (j x : Nat) : (iW l).set j (.int (x : Nat)) = iW (l.set j x) := by unfold iW; rw [List.map_set]
theorem sum_set_zero : ∀ (l : List Nat) (j x : Nat), l.sum = 0 → j < l.length → (l.set j x).sum = x
  | [], _, _, _, h => by cases h
  | a :: r, 0, x, h, _ => by rw [List.sum_cons] at h; rw [List.set_cons_zero, List.sum_cons]; omega
  | a :: r, j + 1, x, h, hj => by
    rw [List.sum_cons] at h
    rw [List.set_cons_succ, List.sum_cons, sum_set_zero r j x (by omega) (by simpa using hj)]; omega
theorem pstakes_ok (R : RowOk row) (hp : 0 ≤ p) (hat : p < 1000000) {w1 w2 : W} {n wide : Nat} (h1 : 1 ≤ n) (h4 : n ≤ 4) (hw : 1 ≤ wide) (hw2 : wide ≤ 1000) : ∃ (ss : List Nat) (p' : Int), (ss.length = n ∧ 0 < ss.sum ∧ ∀ x ∈ ss, x ≤ wide) ∧ (p ≤ p' ∧ p' ≤ p + 20) ∧ F__law_pool_stakes [.ref 1, .ref 2, .tup [w1, w2, .int (n : Nat)], .int (wide : Nat)] (S ns row p rest) = .ok (.tup (iW ss)) (S ns row p' rest) := by
  suffices h : Ok (F__law_pool_stakes [.ref 1, .ref 2, .tup [w1, w2, .int (n : Nat)], .int (wide : Nat)] (S ns row p rest)) (fun _ _ _ => False) fun a st => ∃ (ss : List Nat) (p' : Int), (ss.length = n ∧ 0 < ss.sum ∧ ∀ x ∈ ss, x ≤ wide) ∧ (p ≤ p' ∧ p' ≤ p + 20) ∧ a = .tup (iW ss) ∧ st = S ns row p' rest by
    obtain ⟨a, st, e, ss, p', q1, q2, rfl, rfl⟩ := run_ex h
    exact ⟨ss, p', q1, q2, e⟩
  unfold F__law_pool_stakes
  have i2 : ∀ (st : Sto) (X : XP) (P : W → Sto → Prop), Ok (wIx (.tup [w1, w2, .int (n : Nat)]) (.int 2) st) X P = P (.int (n : Nat)) st := fun st X P => rfl
  have nb : -1000000 ≤ ((n : Nat) : Int) ∧ ((n : Nat) : Int) ≤ 1000000 := by omega
  have hwI : (0 : Int) < (wide : Nat) := by omega
  exists i2, nb, Int.toNat_natCast
  refine cloop_fix (upFrom 0 n) (fun i acc st => ∃ (ss : List Nat) (q : Int), acc = iW ss ∧ ss.length = i ∧ i ≤ n ∧ (∀ x ∈ ss, x ≤ wide) ∧ (p ≤ q ∧ q ≤ p + 2 * i) ∧ st = S ns row q (rest ++ .lst (iW ss) :: [])) (fun _ _ _ _ => rfl) ?_ ?_ 1000000 0 [] _ (by rw [up_len]; omega) (Nat.zero_le _) ⟨[], p, rfl, rfl, Nat.zero_le _, by simp, by omega, rfl⟩
  · rintro i w acc st hw3 ⟨ss, q, rfl, hi, hin, hss, hq, rfl⟩
    obtain ⟨hi2, rfl⟩ := up_get hw3
    refine ⟨_, rfl, ?_⟩
    obtain ⟨v1, hv1, e1⟩ := takeK (ns := ns) (p := q) R (by omega) (by omega) (rest ++ .lst (iW ss) :: []) (lim := 6) (by omega)
    obtain ⟨v2, hv2, e2⟩ := takeK (ns := ns) (p := q + 1) R (by omega) (by omega) (rest ++ .lst (iW ss) :: []) (lim := (wide : Nat)) hwI
    obtain ⟨m, hm⟩ : ∃ m : Nat, (m : Int) = v2 := ⟨v2.toNat, by omega⟩
    exists wipeL, bYes, e1
    by_cases h0 : 0 < v1
    · exists h0, e2
      refine ⟨iW ss, S_get (ns := ns) (row := row) (p := q), by rw [iW_len]; omega, ss ++ [m], q + 1 + 1, ?_, by simp [hi], by omega, ?_, by omega, ?_⟩
      · unfold iW; rw [List.map_append, ← hm]; rfl
      · intro x hx
        rcases List.mem_append.mp hx with z | z
        · exact hss x z
        · rw [List.mem_singleton.mp z]; omega
      · have : iW (ss ++ [m]) = iW ss ++ [.int v2] := by unfold iW; rw [List.map_append, ← hm]; rfl
        rw [this]
        exact S_put
    · exists h0
      refine ⟨iW ss, S_get (ns := ns) (row := row) (p := q), by rw [iW_len]; omega, ss ++ [0], q + 1, ?_, by simp [hi], by omega, ?_, by omega, ?_⟩
      · unfold iW; rw [List.map_append]; rfl
      · intro x hx
        rcases List.mem_append.mp hx with z | z
        · exact hss x z
        · rw [List.mem_singleton.mp z]; omega
      · have : iW (ss ++ [0]) = iW ss ++ [.int 0] := by unfold iW; rw [List.map_append]; rfl
        rw [this]
        exact S_put
  · rintro acc st ⟨ss, q, rfl, hi, hin, hss, hq, rfl⟩
    rw [up_len] at hi hin hq
    have sm := v_sumN (st := S ns row q (rest ++ .lst (iW ss) :: [])) (x := .ref (rest.length + 1 + 1 + 1)) (l := ss) S_seq
    exists sm
    by_cases h0 : ((ss.sum : Nat) : Int) = 0
    · obtain ⟨v1, hv1, e1⟩ := takeK (ns := ns) (p := q) R (by omega) (by omega) (rest ++ .lst (iW ss) :: []) (lim := (wide : Nat)) hwI
      obtain ⟨v2, hv2, e2⟩ := takeK (ns := ns) (p := q + 1) R (by omega) (by omega) (rest ++ .lst (iW ss) :: []) (lim := (n : Nat)) (by omega)
      obtain ⟨m, hm⟩ : ∃ m : Nat, (m : Int) = 1 + v1 := ⟨(1 + v1).toNat, by omega⟩
      obtain ⟨j, hj⟩ : ∃ j : Nat, (j : Int) = v2 := ⟨v2.toNat, by omega⟩
      have gg : (S ns row (q + 1 + 1) (rest ++ .lst (iW ss) :: [])).c[rest.length + 1 + 1 + 1]? = some (.lst (iW ss)) := S_get
      have ix : ixN (iW ss).length v2 = some j := by unfold ixN; rw [iW_len, if_pos (by omega), if_pos (by omega)]; congr 1; omega
      exists h0, k_ixw, i2, e1, e2, gg, ix, hm.symm
      have st2 : (S ns row (q + 1 + 1) (rest ++ .lst (iW ss) :: [])).put (rest.length + 1 + 1 + 1) (.lst ((iW ss).set j (.int (m : Nat)))) (W.low (rest.length + 1 + 1 + 1) (.int (m : Nat))) = S ns row (q + 1 + 1) (rest ++ .lst (iW (ss.set j m)) :: []) := by
        rw [iW_set]; exact S_put
      rw [st2, v_tup S_seq, S_trim (show W.pure (.tup (iW (ss.set j m))) = true by simp only [W.pure]; exact iW_pure _)]
      refine ⟨ss.set j m, _, ⟨by rw [List.length_set]; exact hi, ?_, fun x hx => ?_⟩, by omega, rfl, rfl⟩
      · rw [sum_set_zero ss j m (by omega) (by omega)]; omega
      · rcases List.mem_or_eq_of_mem_set hx with z | z
        · exact hss x z
        · rw [z]; omega
    · exists h0
      rw [v_tup S_seq, S_trim (show W.pure (.tup (iW ss)) = true by simp only [W.pure]; exact iW_pure _)]
      exact ⟨ss, _, ⟨hi, by omega, hss⟩, by omega, rfl, rfl⟩
end
end LW

set_option Elab.async false
set_option linter.all false
set_option maxRecDepth 100000
set_option maxHeartbeats 4000000
namespace LW
open PySem PySem.W RB L2
local macro_rules | `(tactic| exists $es,*) => `(tactic| simp (config := {decide := false, implicitDefEqProofs := false, maxSteps := 1000000}) only [k_ok, k_exc, k_err, k_ite, k_iteS, k_nx, k_rt, k_loc, k_lit, k_nil, k_cons, k_tup, k_lst, k_bin, k_eB, k_eU, k_call, k_tru, k_not, k_and, k_or, k_if, k_eAnd, k_eOr, k_eNot, k_val, k_chain, k_sNil, k_sSeq, k_sSet, tgName, tgCons, tgNil, Option.bind_some, k_sDrop, k_sRet, k_sRetN, k_sIf, k_sBreak, k_sCont, k_sFor, k_sRaise, k_sTry, k_defn, k_rng1, k_comp,
  v_add, v_sub, v_mul, v_mod, v_div, v_lt, v_le, v_gt, v_ge, v_eq, v_ne, v_neg, v_int, v_min,
  List.map_cons, List.map_nil, List.length_cons, List.length_nil, List.replicate_succ, List.replicate_zero, List.cons_append, List.nil_append, List.append_nil, List.getElem?_cons_succ, List.getElem?_cons_zero, List.set_cons_succ, List.set_cons_zero,
  Nat.reduceAdd, Nat.reduceSub, Nat.zero_add, decide_eq_true_eq, Bool.not_eq_true', decide_eq_false_iff_not, Bool.true_eq_false, Bool.false_eq_true, if_true, if_false, ite_true, ite_false, ite_self, reduceIte, Nat.reduceLeDiff, true_and, and_true, not_true_eq_false, not_false_eq_true, decide_true, decide_false, Bool.not_true, Bool.not_false, $[$es:term],*])
section
variable {c g : List Cell} {X : XP} {P : W → Sto → Prop} {k s : Rat} {x y : W} {n : Nat} {ss : List Nat}
theorem seq_app {ws : List W} (h : seqOf (C c) x = some ws) (g : List Cell) : seqOf (C (c ++ g)) x = some ws := by
  rcases seqOf_get h with rfl | ⟨m, rfl, h2⟩
  · rfl
  · show RB.getL (C (c ++ g)) m = some ws
    unfold RB.getL at h2 ⊢
    have hm : m < c.length := by
      by_cases z : m < c.length
      · exact z
      · rw [List.getElem?_eq_none (show (C c).c.length ≤ m from Nat.le_of_not_lt z)] at h2; cases h2
    show (match (c ++ g)[m]? with | some (.lst ws) => some ws | some (.scr ws) => some ws | _ => none) = _
    rw [List.getElem?_append_left hm]
    exact h2
theorem one_fr : frW 1 = .tup [.int 1, .int 1] := rfl
theorem zero_fr : frW 0 = .tup [.int 0, .int 1] := rfl
theorem b1 : Bq 4000 1 := bq_one.mono (by decide)
theorem kept_ok (h : PoolQ k s) : F__is_kept [frW k] (C c) = .ok (.bl true) (C c) := by
  refine run_eq ?_
  unfold F__is_kept
  have a := amount_ok (c := c) k
  rw [decide_eq_true h.k0] at a
  have b := below_ok (c := c) (h.bk.mono (by decide)) b1
  rw [decide_eq_true h.k1, one_fr] at b
  exists kk a, kk b
  rw [c_trim0 rfl]
  exact ⟨rfl, rfl⟩
theorem step_ok (h : PoolQ k s) : F__is_step [frW s] (C c) = .ok (.bl true) (C c) := by
  refine run_eq ?_
  unfold F__is_step
  have a := amount_ok (c := c) s
  rw [decide_eq_true (Rat.le_of_lt h.s0)] at a
  have b := below_ok (c := c) b1 (h.bs.mono (by decide))
  rw [decide_eq_false (Rat.not_lt.mpr h.s1), one_fr] at b
  have n0 : (s.num = 0) = False := eq_false fun e => ne_of_pos h.s0 (Rat.num_eq_zero.mp e)
  have d : ((s.den : Nat) : Int) ≤ 100 := by have := h.sd; omega
  exists kk a, i0_fr, i1_fr, n0, kk b, d, truth
  rw [c_trim0 rfl]
  exact ⟨rfl, rfl⟩
theorem need_ok (h : PoolQ k s) (h1 : 1 ≤ n) (h4 : n ≤ 4) (hx : seqOf (C c) x = some [frW k, frW s, .int (n : Nat)]) : F__need_pool [x] (C c) = .ok .non (C c) := by
  refine run_eq ?_
  unfold F__need_pool
  have ln : ∀ (X : XP) (P : W → Sto → Prop), Ok (fLen [x] (C c)) X P = P (.int 3) (C c) := fun X P => lenS hx X P
  have t3 : ∀ (t : Tgs) (l : Lo), tgTup 3 t x l (C c) = t [frW k, frW s, .int (n : Nat)] l (C c) := fun t l => tup3 hx
  have wi := within_ok (c := c) (n : Nat) 1 4
  have e1 : (decide ((1 : Int) ≤ (n : Nat)) && decide (((n : Nat) : Int) ≤ 4)) = true := by rw [decide_eq_true (by omega), decide_eq_true (by omega)]; rfl
  rw [e1] at wi
  exists kk (seq_ok (c := c) hx), ln, truth, t3, kk (kept_ok (c := c) h), kk (step_ok (c := c) h), kk wi
  rw [c_trim0 rfl]
  exact ⟨rfl, rfl⟩
theorem vseqX {ws : List W} {i : Nat} {l : Lo} (h : seqOf (C c) x = some ws) (hl : l[i]? = some (some x)) : ∃ sr : Src, ((∀ j, sr.at (C c) j = some ws[j]?) ∧ ∀ g j, sr.at (C (c ++ g)) j = some ws[j]?) ∧ ∀ (X : XP) (P : Src → Sto → Prop), Ok (vSeq (eLoc i) l (C c)) X P = P sr (C c) := by
  rcases seqOf_get h with rfl | ⟨n, rfl, h2⟩
  · exact ⟨.fix ws, ⟨fun _ => rfl, fun _ _ => rfl⟩, fun X P => by rw [k_vSeq, k_loc, hl]⟩
  · refine ⟨.live n, ⟨fun j => ?_, fun g j => ?_⟩, fun X P => by rw [k_vSeq, k_loc, hl]; dsimp only; rw [h2]⟩
    · show (RB.getL (C c) n).map _ = _
      rw [h2]; rfl
    · have h3 : RB.getL (C (c ++ g)) n = some ws := seq_app h g
      show (RB.getL (C (c ++ g)) n).map _ = _
      rw [h3]; rfl
theorem all_true (ws : List W) (X : XP) (P : W → Sto → Prop) : Ok (fAll [.ref c.length] (C (c ++ .lst (ws.map fun _ => W.bl true) :: []))) X P = P (.bl true) (C (c ++ .lst (ws.map fun _ => W.bl true) :: [])) := by
  have e : ws.map (fun _ => W.bl true) = trues ws.length := by unfold trues; rw [List.map_const']
  rw [e, v_all (show RB.getL _ _ = _ from c_seq) (bools_trues _), all_rep]
theorem mem_iW {w : W} {l : List Nat} (h : w ∈ iW l) : ∃ a ∈ l, w = .int (a : Nat) := by
  unfold iW at h
  obtain ⟨a, ha, rfl⟩ := List.mem_map.mp h
  exact ⟨a, ha, rfl⟩
theorem stakes_ok (h4 : n ≤ 4) (hx : seqOf (C c) x = some [frW k, frW s, .int (n : Nat)]) (hy : seqOf (C c) y = some (iW ss)) (hl : ss.length = n) (hs : 0 < ss.sum) (hm : ∀ a ∈ ss, a ≤ 1000000000) : F__need_stakes [x, y] (C c) = .ok .non (C c) := by
  refine run_eq ?_
  unfold F__need_stakes
  have ln : ∀ (X : XP) (P : W → Sto → Prop), Ok (fLen [y] (C c)) X P = P (.int (n : Nat)) (C c) := fun X P => by rw [lenS hy, iW_len, hl]
  have i2 : ∀ (X : XP) (P : W → Sto → Prop), Ok (wIx x (.int 2) (C c)) X P = P (.int (n : Nat)) (C c) := fun X P => v_ix hx rfl
  obtain ⟨sr, ⟨sat, satx⟩, vs⟩ := vseqX (c := c) (i := 1) (l := [some x, some y, none]) hy rfl
  exists kk (seq_ok (c := c) hy), ln, i2, truth, vs
  refine cl_map (c := c) (ws := iW ss) (fun us i => satx _ i) (fun _ => .bl true) (by rw [iW_len]; omega) (fun w hw => ?_) ?_
  · obtain ⟨a, ha, rfl⟩ := mem_iW hw
    refine ⟨_, fun _ => rfl, rfl, fun us => run_eq ?_⟩
    have wi := within_ok (c := c ++ .lst us :: []) (a : Nat) 0 1000000000
    have e1 : (decide ((0 : Int) ≤ (a : Nat)) && decide (((a : Nat) : Int) ≤ 1000000000)) = true := by have := hm a ha; rw [decide_eq_true (by omega), decide_eq_true (by omega)]; rfl
    rw [e1] at wi
    exists wipeL, kk wi
  · have sm := v_sumN (st := C (c ++ .lst ((iW ss).map fun _ => W.bl true) :: [])) (x := y) (l := ss) (seq_app hy _)
    have s0 : (((ss.sum : Nat) : Int) = 0) = False := eq_false (by omega)
    exists all_true (c := c) (iW ss), sm, s0
    rw [c_trim rfl]
    exact ⟨rfl, rfl⟩
theorem returned_ok (h : PoolQ k s) (hx : seqOf (C c) x = some [frW k, frW s, .int (n : Nat)]) : F__returned [x] (C c) = .ok (frW (1 - k)) (C c) := by
  refine run_eq ?_
  unfold F__returned
  have i0 : ∀ (X : XP) (P : W → Sto → Prop), Ok (wIx x (.int 0) (C c)) X P = P (frW k) (C c) := fun X P => v_ix hx rfl
  have m := minus_ok (c := c) b1 (h.bk.mono (by decide))
  rw [one_fr] at m
  exists i0, kk m
  rw [c_trim0 (fr_pure _)]
  exact ⟨rfl, rfl⟩
/-- what is paid for a runner with this stake -/
def payW (k s : Rat) (S a : Nat) : W := if a = 0 then .non else frW (payQ k s S a)
theorem pay_pure (k s : Rat) (S a : Nat) : W.pure (payW k s S a) = true := by unfold payW; split <;> rfl
theorem pay_ok (h : PoolQ k s) (hx : seqOf (C c) x = some [frW k, frW s, .int (n : Nat)]) {S a : Nat} (hS : S < 2 ^ 33) (ha : a < 2 ^ 33) : F__payment [x, .int (S : Nat), .int (a : Nat)] (C c) = .ok (payW k s S a) (C c) := by
  refine run_eq ?_
  unfold F__payment
  by_cases h0 : a = 0
  · subst h0
    have e0 : (((0 : Nat) : Int) = 0) = True := eq_true rfl
    exists e0
    rw [c_trim0 rfl]
    exact ⟨rfl, rfl⟩
  · have e0 : (((a : Nat) : Int) = 0) = False := eq_false (by omega)
    have i1 : ∀ (X : XP) (P : W → Sto → Prop), Ok (wIx x (.int 1) (C c)) X P = P (frW s) (C c) := fun X P => v_ix hx rfl
    have f1 : F_fraction [.int (S : Nat), .int (a : Nat)] (C c) = .ok (frW (mkRat (S : Nat) a)) (C c) := fraction_ok (by omega) (Nat.lt_of_lt_of_le ha (Nat.pow_le_pow_right (by decide) (by decide)))
    have t1 := times_ok (c := c) (h.br.mono (by decide)) ((bq_ratio hS ha (by omega)).mono (by decide : 33 ≤ 4000))
    have t2 := times_ok (c := c) ((h.be hS ha (by omega)).mono (by decide)) ((bd_inv h.bs (by decide)).mono (by decide : 7 ≤ 4000))
    have bst := h.bst hS ha (by omega)
    have t3 := times_ok (c := c) ((bq_floor bst (by decide)).mono (by decide)) (h.bs.mono (by decide : 7 ≤ 4000))
    have e3 : frW ((((1 - k) * mkRat (S : Nat) a * s⁻¹).floor : Int) : Rat) = .tup [.int (((1 - k) * mkRat (S : Nat) a * s⁻¹).num / (((1 - k) * mkRat (S : Nat) a * s⁻¹).den : Nat)), .int 1] := by
      rw [frW_int, Rat.floor_def]
    rw [e3] at t3
    have dv := div_bd ((1 - k) * mkRat (S : Nat) a * s⁻¹).den_pos (Nat.lt_of_lt_of_le bst.2 (Nat.pow_le_pow_right (by decide) (by decide)))
    exists e0, i1, kk f1, kk (returned_ok (c := c) h hx), kk t1, kk (over_ok (c := c) h.s0), kk t2, i0_fr, i1_fr, dv, (by decide : (2 : Nat) ≤ 1000), kk t3
    rw [c_trim0 (fr_pure _)]
    refine ⟨?_, rfl⟩
    unfold payW payQ
    rw [if_neg h0]
theorem payments_ok (h : PoolQ k s) (h1 : 1 ≤ n) (h4 : n ≤ 4) (hx : seqOf (C c) x = some [frW k, frW s, .int (n : Nat)]) (hy : seqOf (C c) y = some (iW ss)) (hl : ss.length = n) (hs : 0 < ss.sum) (hm : ∀ a ∈ ss, a ≤ 1000000000) (hS : ss.sum < 2 ^ 33) : F_payments [x, y] (C c) = .ok (.tup (ss.map (payW k s ss.sum))) (C c) := by
  refine run_eq ?_
  unfold F_payments
  obtain ⟨sr, ⟨sat, satx⟩, vs⟩ := vseqX (c := c) (i := 1) (l := [some x, some y, none]) hy rfl
  exists kk (need_ok (c := c) h h1 h4 hx), kk (stakes_ok (c := c) h4 hx hy hl hs hm), vs
  have pm : ∀ l : List Nat, W.pures (l.map (payW k s ss.sum)) = true := by
    intro l
    induction l with
    | nil => rfl
    | cons a r ih => show (W.pure (payW k s ss.sum a) && W.pures (r.map _)) = true; rw [ih, pay_pure]; rfl
  have mm : (iW ss).map (fun w => match w with | .int i => payW k s ss.sum i.toNat | _ => .non) = ss.map (payW k s ss.sum) := by
    unfold iW
    rw [List.map_map]
    exact List.map_congr_left fun a _ => by show payW k s ss.sum (Int.toNat (a : Nat)) = _; rw [Int.toNat_natCast]
  refine cl_map (c := c) (ws := iW ss) (fun us i => satx _ i) (fun w => match w with | .int i => payW k s ss.sum i.toNat | _ => .non) (by rw [iW_len]; omega) (fun w hw => ?_) ?_
  · obtain ⟨a, ha, rfl⟩ := mem_iW hw
    refine ⟨_, fun _ => rfl, pay_pure _ _ _ _, fun us => run_eq ?_⟩
    have sm := v_sumN (st := C (c ++ .lst us :: [])) (x := y) (l := ss) (seq_app hy _)
    have pk := pay_ok (c := c ++ .lst us :: []) h (seq_app hx _) hS (a := a) (by have := hm a ha; omega)
    exists wipeL, sm, kk pk, Int.toNat_natCast
  · rw [mm, v_tup c_seq, c_trim (show W.pure (.tup (ss.map (payW k s ss.sum))) = true by simp only [W.pure]; exact pm ss)]
    exact ⟨rfl, rfl⟩
end
end LW

set_option Elab.async false
set_option linter.all false
set_option maxRecDepth 100000
set_option maxHeartbeats 4000000
namespace LW
open PySem PySem.W RB L2
local macro_rules | `(tactic| exists $es,*) => `(tactic| simp (config := {decide := false, implicitDefEqProofs := false, maxSteps := 1000000}) only [k_ok, k_exc, k_err, k_ite, k_iteS, k_nx, k_rt, k_loc, k_lit, k_nil, k_cons, k_tup, k_lst, k_bin, k_eB, k_eU, k_call, k_tru, k_not, k_and, k_or, k_if, k_eAnd, k_eOr, k_eNot, k_val, k_chain, k_sNil, k_sSeq, k_sSet, tgName, tgCons, tgNil, Option.bind_some, k_sDrop, k_sRet, k_sRetN, k_sIf, k_sBreak, k_sCont, k_sFor, k_sRaise, k_sTry, k_defn, k_rng1, k_comp,
  v_add, v_sub, v_mul, v_mod, v_div, v_lt, v_le, v_gt, v_ge, v_eq, v_ne, v_neg, v_int, v_min,
  List.map_cons, List.map_nil, List.length_cons, List.length_nil, List.replicate_succ, List.replicate_zero, List.cons_append, List.nil_append, List.append_nil, List.getElem?_cons_succ, List.getElem?_cons_zero, List.set_cons_succ, List.set_cons_zero,
  Nat.reduceAdd, Nat.reduceSub, Nat.zero_add, decide_eq_true_eq, Bool.not_eq_true', decide_eq_false_iff_not, Bool.true_eq_false, Bool.false_eq_true, if_true, if_false, ite_true, ite_false, ite_self, reduceIte, Nat.reduceLeDiff, true_and, and_true, not_true_eq_false, not_false_eq_true, decide_true, decide_false, Bool.not_true, Bool.not_false, $[$es:term],*])
section
variable {c g : List Cell} {X : XP} {P : W → Sto → Prop} {k s : Rat} {n : Nat} {ss : List Nat}
theorem pures_map {α : Type} (f : α → W) (h : ∀ a, W.pure (f a) = true) : ∀ l : List α, W.pures (l.map f) = true
  | [] => rfl
  | a :: r => by show (W.pure (f a) && W.pures (r.map f)) = true; rw [h a, pures_map f h r]; rfl
theorem app_st {us : List W} {v : W} (hv : W.pure v = true) (hl : us.length < 1000000) : fAppend (.ref c.length) [v] (C (c ++ .lst us :: g)) = .ok .non (C (c ++ .lst (us ++ [v]) :: g)) := by
  unfold fAppend
  have e : (C (c ++ .lst us :: g)).c[c.length]? = some (.lst us) := c_get
  dsimp only
  rw [e]
  dsimp only
  rw [if_pos hl, W.pure_low hv, c_put]
theorem isL_st {us : List W} : isL (C (c ++ .lst us :: g)) (.ref c.length) = true := by
  unfold isL
  have e : (C (c ++ .lst us :: g)).c[c.length]? = some (.lst us) := c_get
  dsimp only
  rw [e]
theorem sum33 {ss : List Nat} (hl : ss.length ≤ 4) (hm : ∀ a ∈ ss, a < 2 ^ 31) : ss.sum < 2 ^ 33 := by
  have : ∀ l : List Nat, (∀ a ∈ l, a < 2 ^ 31) → l.sum ≤ l.length * 2147483647 := by
    intro l
    induction l with
    | nil => intro _; exact Nat.zero_le _
    | cons a r ih =>
      intro hq
      have h1 := hq a (List.mem_cons_self ..)
      have h2 := ih fun b hb => hq b (List.mem_cons_of_mem _ hb)
      rw [List.sum_cons, List.length_cons, Nat.succ_mul]; omega
  have h2 := this ss hm
  have h3 := Nat.mul_le_mul_right 2147483647 hl
  omega
theorem lpay_ok (h : PoolQ k s) (hl : ss.length ≤ 4) (hm : ∀ a ∈ ss, a < 2 ^ 31) : F__law_payments [.tup [frW k, frW s, .int (n : Nat)], .tup (iW ss)] (C c) = .ok (.tup (ss.map (payW k s ss.sum))) (C c) := by
  refine run_eq ?_
  have hS := sum33 hl hm
  unfold F__law_payments
  generalize hSS : ss.sum = SS at hS ⊢
  have i0 : ∀ (st : Sto) (X : XP) (P : W → Sto → Prop), Ok (wIx (.tup [frW k, frW s, .int (n : Nat)]) (.int 0) st) X P = P (frW k) st := fun st X P => rfl
  have i1 : ∀ (st : Sto) (X : XP) (P : W → Sto → Prop), Ok (wIx (.tup [frW k, frW s, .int (n : Nat)]) (.int 1) st) X P = P (frW s) st := fun st X P => rfl
  have m1 := lminus_ok (c := c) b1 (h.bk.mono (by decide))
  rw [one_fr] at m1
  have bS : Bq 34 ((SS : Nat) : Rat) := bd_int (a := (SS : Nat)) (by rw [Int.natAbs_natCast]; omega) (by decide)
  have t1 := ltimes_ok (c := c) (h.br.mono (by decide)) (bS.mono (by decide))
  have eS : frW ((SS : Nat) : Rat) = .tup [.int (SS : Nat), .int 1] := rfl
  rw [eS] at t1
  have bW : Bq 46 ((1 - k) * ((SS : Nat) : Rat)) := bd_mul h.br bS
  generalize hWq : (1 - k) * ((SS : Nat) : Rat) = Wq at t1 bW
  have sm := v_sumN (st := C c) (x := .tup (iW ss)) (l := ss) rfl
  rw [hSS] at sm
  have push : (C c).push (.lst []) = C (c ++ .lst [] :: []) := rfl
  have vs : ∀ (a b d e f g : Option W) (st : Sto) (X : XP) (P : Src → Sto → Prop), Ok (vSeq (eLoc 1) [a, some (.tup (iW ss)), b, d, e, f, g] st) X P = P (.fix (iW ss)) st := fun a b d e f g st X P => rfl
  exists i0, (by decide : (2 : Nat) ≤ 1000), (by decide : (0 : Nat) ≤ 1000), kk m1, sm, kk t1, push, vs
  refine loop_fix (iW ss) (fun i l st => (∃ a b d : Option W, l = [some (.tup [frW k, frW s, .int (n : Nat)]), some (.tup (iW ss)), some (frW Wq), some (.ref c.length), a, b, d]) ∧ st = C (c ++ .lst ((ss.take i).map (payW k s SS)) :: [])) (fun _ _ _ _ => rfl) ?_ ?_ 1000000 0 _ _ (by rw [iW_len]; omega) (Nat.zero_le _) ⟨⟨none, none, none, rfl⟩, rfl⟩
  · rintro i w l st hw ⟨⟨a, b, d, rfl⟩, rfl⟩
    obtain ⟨x, hx, rfl⟩ : ∃ x, ss[i]? = some x ∧ w = .int (x : Nat) := by
      unfold iW at hw
      rw [List.getElem?_map] at hw
      cases ex : ss[i]? with
      | none => rw [ex] at hw; cases hw
      | some x => rw [ex] at hw; cases hw; exact ⟨x, rfl, rfl⟩
    refine ⟨_, rfl, ?_⟩
    have tk : ss.take (i + 1) = ss.take i ++ [x] := by rw [List.take_succ, hx]; rfl
    have hml : ((ss.take i).map (payW k s SS)).length < 1000000 := by rw [List.length_map, List.length_take]; omega
    have hxm := hm x (List.mem_of_getElem? hx)
    by_cases h0 : x = 0
    · subst h0
      have e0 : (((0 : Nat) : Int) = 0) = True := eq_true rfl
      exists e0, k_eMt, isL_st (c := c) (g := []) (us := (ss.take i).map (payW k s SS)), kk (app_st (c := c) (g := []) (v := .non) rfl hml)
      exact ⟨⟨_, _, _, rfl⟩, by rw [tk, List.map_append]; rfl⟩
    · have e0 : (((x : Nat) : Int) = 0) = False := eq_false (by omega)
      have x31 : x < 2 ^ 33 := by omega
      have fr1 : ∀ us, F__law_frac [.int Wq.num, .int ((Wq.den : Nat) * (x : Nat))] (C (c ++ .lst us :: [])) = .ok (frW ((1 - k) * mkRat (SS : Nat) x)) (C (c ++ .lst us :: [])) := fun us => by
        have q := lfrac_ok (c := c ++ .lst us :: []) (a := Wq.num) (b := Wq.den * x) (Nat.mul_pos Wq.den_pos (by omega)) (by
          have := Nat.mul_lt_mul'' bW.2 x31
          rw [← Nat.pow_add] at this
          exact Nat.lt_of_lt_of_le this (Nat.pow_le_pow_right (by decide) (by decide)))
        rw [mk_part, ← hWq, each_q, hWq, Int.natCast_mul] at q
        exact q
      have bE := h.be hS x31 (by omega)
      have fl := floor_over (p := (1 - k) * mkRat (SS : Nat) x) h.s0
      generalize hE : (1 - k) * mkRat (SS : Nat) x = Eq at fr1 bE fl
      have snp := num_pos h.s0
      have dv : divOk ((Eq.den : Nat) * s.num) = true := by
        have e : ((Eq.den : Nat) : Int) * s.num = ((Eq.den * s.num.natAbs : Nat) : Int) := by rw [Int.natCast_mul]; congr 1; omega
        rw [e]
        refine div_bd (Nat.mul_pos Eq.den_pos (by omega)) ?_
        have := Nat.mul_lt_mul'' bE.2 h.bs.1
        rw [← Nat.pow_add] at this
        exact Nat.lt_of_lt_of_le this (Nat.pow_le_pow_right (by decide) (by decide))
      have bF : Bq 52 (((Eq * s⁻¹).floor : Int) : Rat) := bq_floor (bd_mul bE (bd_inv h.bs (by decide))) (by decide)
      have fr2 : ∀ us, F__law_frac [.int ((Eq * s⁻¹).floor * s.num), .int (s.den : Nat)] (C (c ++ .lst us :: [])) = .ok (frW (payQ k s SS x)) (C (c ++ .lst us :: [])) := fun us => by
        have q := lfrac_ok (c := c ++ .lst us :: []) (a := (Eq * s⁻¹).floor * s.num) (b := s.den) s.den_pos (Nat.lt_of_lt_of_le h.bs.2 (Nat.pow_le_pow_right (by decide) (by decide)))
        rw [int_times] at q
        rw [q]
        unfold payQ
        rw [hE]
      have mo1 := mul_bd (bdn (bW.mono (by decide))) (show ((x : Nat) : Int).natAbs < 2 ^ 4000 by rw [Int.natAbs_natCast]; exact Nat.lt_of_lt_of_le x31 (Nat.pow_le_pow_right (by decide) (by decide)))
      have mo2 := mul_bd (bE.mono (by decide)).1 (bdn (h.bs.mono (by decide)))
      have mo3 := mul_bd (bdn (bE.mono (by decide))) (h.bs.mono (by decide : 7 ≤ 4000)).1
      have mo4 := mul_bd (bF.mono (by decide)).1 (h.bs.mono (by decide : 7 ≤ 4000)).1
      rw [Rat.num_intCast] at mo4
      exists e0, k_eMt, isL_st (c := c) (g := []) (us := (ss.take i).map (payW k s SS)), i0_fr, i1_fr, i1, mo1, kk (fr1 _), mo2, mo3, dv, fl.symm, mo4, kk (fr2 _), kk (app_st (c := c) (g := []) (v := frW (payQ k s SS x)) (fr_pure _) hml)
      refine ⟨⟨_, _, _, rfl⟩, ?_⟩
      rw [tk, List.map_append]
      have : payW k s SS x = frW (payQ k s SS x) := by unfold payW; rw [if_neg h0]
      rw [List.map_cons, List.map_nil, this]
  · rintro l st ⟨⟨a, b, d, rfl⟩, rfl⟩
    rw [iW_len, List.take_length]
    exists k_loc
    rw [v_tup c_seq, c_trim (show W.pure (.tup (ss.map (payW k s SS))) = true by simp only [W.pure]; exact pures_map _ (pay_pure k s SS) ss)]
    exact ⟨rfl, rfl⟩
end
end LW

set_option Elab.async false
set_option linter.all false
set_option maxRecDepth 100000
set_option maxHeartbeats 4000000
namespace LW
open PySem PySem.W RB L2
local macro_rules | `(tactic| exists $es,*) => `(tactic| simp (config := {decide := false, implicitDefEqProofs := false, maxSteps := 1000000}) only [k_ok, k_exc, k_err, k_ite, k_iteS, k_nx, k_rt, k_loc, k_lit, k_nil, k_cons, k_tup, k_lst, k_bin, k_eB, k_eU, k_call, k_tru, k_not, k_and, k_or, k_if, k_eAnd, k_eOr, k_eNot, k_val, k_chain, k_sNil, k_sSeq, k_sSet, tgName, tgCons, tgNil, Option.bind_some, k_sDrop, k_sRet, k_sRetN, k_sIf, k_sBreak, k_sCont, k_sFor, k_sRaise, k_sTry, k_defn, k_rng1, k_comp,
  v_add, v_sub, v_mul, v_mod, v_div, v_lt, v_le, v_gt, v_ge, v_eq, v_ne, v_neg, v_int, v_min,
  List.map_cons, List.map_nil, List.length_cons, List.length_nil, List.replicate_succ, List.replicate_zero, List.cons_append, List.nil_append, List.append_nil, List.getElem?_cons_succ, List.getElem?_cons_zero, List.set_cons_succ, List.set_cons_zero,
  Nat.reduceAdd, Nat.reduceSub, Nat.zero_add, decide_eq_true_eq, Bool.not_eq_true', decide_eq_false_iff_not, Bool.true_eq_false, Bool.false_eq_true, if_true, if_false, ite_true, ite_false, ite_self, reduceIte, Nat.reduceLeDiff, true_and, and_true, not_true_eq_false, not_false_eq_true, decide_true, decide_false, Bool.not_true, Bool.not_false, $[$es:term],*])
section
variable {c g : List Cell} {X : XP} {P : W → Sto → Prop} {k s : Rat} {x y : W} {n : Nat}
def rowW : Option Rat → W
  | none => .non
  | some D => frW D
/-- a payment of the pool -/
structure PayQ (s D : Rat) : Prop where
  d0 : 0 ≤ D
  m : (D * s⁻¹).den = 1
  b : Bq 80 D
def boundW (k s : Rat) : Option Rat → W
  | none => .non
  | some D => .tup [frW (lowQ k s D), frW (highQ k D)]
theorem bound_pure (k s : Rat) (o : Option Rat) : W.pure (boundW k s o) = true := by cases o <;> rfl
theorem row_pure (o : Option Rat) : W.pure (rowW o) = true := by cases o <;> rfl
theorem ds_pos (h : PoolQ k s) {D : Rat} (hD : 0 ≤ D) : 0 < D + s := by
  have := Rat.add_le_add_right (c := s) |>.mpr hD
  rw [Rat.zero_add] at this
  exact ltleQ h.s0 this
theorem low_bq (h : PoolQ k s) {D : Rat} (hD : PayQ s D) : Bq 100 (lowQ k s D) := (bd_mul h.br (bd_inv (bd_add hD.b h.bs) (by decide))).mono (by decide)
theorem high_bq (h : PoolQ k s) {D : Rat} (hD : PayQ s D) : Bq 100 (highQ k D) := by
  unfold highQ
  split
  · exact bq_one.mono (by decide)
  · show Bq 100 (if _ then _ else _)
    split
    · exact (bd_mul h.br (bd_inv hD.b (by decide))).mono (by decide)
    · exact bq_one.mono (by decide)
theorem ispay_ok (h : PoolQ k s) (hx : seqOf (C c) x = some [frW k, frW s, .int (n : Nat)]) {D : Rat} (hD : PayQ s D) : F__is_payment [x, frW D] (C c) = .ok (.bl true) (C c) := by
  refine run_eq ?_
  unfold F__is_payment
  have i1 : ∀ (X : XP) (P : W → Sto → Prop), Ok (wIx x (.int 1) (C c)) X P = P (frW s) (C c) := fun X P => v_ix hx rfl
  have a := amount_ok (c := c) D
  rw [decide_eq_true hD.d0] at a
  have t := times_ok (c := c) (hD.b.mono (by decide)) ((bd_inv h.bs (by decide)).mono (by decide : 7 ≤ 4000))
  have e1 : (((D * s⁻¹).den : Nat) : Int) = 1 := by rw [hD.m]; rfl
  exists kk a, i1, kk (over_ok (c := c) h.s0), kk t, i1_fr, e1
  rw [c_trim0 rfl]
  exact ⟨rfl, rfl⟩
theorem rowlen {row : List (Option Rat)} : (row.map rowW).length = row.length := List.length_map ..
theorem filt_row : ∀ row : List (Option Rat), ((row.map rowW).filter (fun w => match w with | .non => false | _ => true)) = (row.filterMap id).map frW
  | [] => rfl
  | none :: r => by
    rw [List.map_cons, List.filterMap_cons, List.filter_cons, if_neg (by simp [rowW])]
    exact filt_row r
  | some D :: r => by
    rw [List.map_cons, List.filterMap_cons, List.filter_cons, if_pos (by simp [rowW, frW])]
    show _ = frW D :: _
    rw [← filt_row r]; rfl
theorem mem_row {w : W} {row : List (Option Rat)} (h : w ∈ row.map rowW) : w = .non ∨ ∃ D, some D ∈ row ∧ w = frW D := by
  obtain ⟨o, ho, rfl⟩ := List.mem_map.mp h
  cases o with
  | none => exact .inl rfl
  | some D => exact .inr ⟨D, ho, rfl⟩
theorem mem_some {row : List (Option Rat)} {D : Rat} (h : D ∈ row.filterMap id) : some D ∈ row := by
  obtain ⟨o, ho, e⟩ := List.mem_filterMap.mp h
  cases o with
  | none => cases e
  | some D' => cases e; exact ho
theorem row_ok (h : PoolQ k s) (h4 : n ≤ 4) (hx : seqOf (C c) x = some [frW k, frW s, .int (n : Nat)]) {row : List (Option Rat)} (hy : seqOf (C c) y = some (row.map rowW)) (hl : row.length = n) (hr : ∀ D, some D ∈ row → PayQ s D) (hne : row.filterMap id ≠ []) : F__need_row [x, y] (C c) = .ok .non (C c) := by
  refine run_eq ?_
  unfold F__need_row
  have ln : ∀ (X : XP) (P : W → Sto → Prop), Ok (fLen [y] (C c)) X P = P (.int (n : Nat)) (C c) := fun X P => by rw [lenS hy, rowlen, hl]
  have i2 : ∀ (X : XP) (P : W → Sto → Prop), Ok (wIx x (.int 2) (C c)) X P = P (.int (n : Nat)) (C c) := fun X P => v_ix hx rfl
  obtain ⟨sr, ⟨sat, satx⟩, vs⟩ := vseqX (c := c) (i := 1) (l := [some x, some y, none, none]) hy rfl
  exists kk (seq_ok (c := c) hy), ln, i2, truth, vs
  refine cl_pure (c := c) (ws := row.map rowW) (fun us i => satx _ i) (fun w => match w with | .non => false | _ => true) (fun w => w) (by rw [rowlen]; omega) (fun w hw => ?_) ?_
  · refine ⟨_, fun _ => rfl, fun us => run_eq ?_, fun hb => ⟨?_, fun us => run_eq ?_⟩⟩
    · rcases mem_row hw with rfl | ⟨D, _, rfl⟩
      · have v : ∀ (st : Sto) (X : XP) (P : W → Sto → Prop), Ok (wNotN .non .non st) X P = P (.bl false) st := fun st X P => rfl
        exists wipeL, v
      · have v : ∀ (st : Sto) (X : XP) (P : W → Sto → Prop), Ok (wNotN (frW D) .non st) X P = P (.bl true) st := fun st X P => rfl
        exists wipeL, v
        rfl
    · rcases mem_row hw with rfl | ⟨D, _, rfl⟩ <;> rfl
    · exists wipeL
  · rw [List.map_id', filt_row]
    have hfl : (row.filterMap id).length ≤ 4 := Nat.le_trans (List.length_filterMap_le _ _) (by omega)
    have hfp : 0 < (row.filterMap id).length := List.length_pos_iff.mpr hne
    have gl : RB.getL (C (c ++ .lst ((row.filterMap id).map frW) :: [])) c.length = some ((row.filterMap id).map frW) := by unfold RB.getL; rw [c_get]
    have lf : ∀ (X : XP) (P : W → Sto → Prop), Ok (fLen [.ref c.length] (C (c ++ .lst ((row.filterMap id).map frW) :: []))) X P = P (.int ((row.filterMap id).length : Nat)) (C (c ++ .lst ((row.filterMap id).map frW) :: [])) := fun X P => by rw [lenS (x := .ref c.length) gl, List.length_map]
    have l0 : ((((row.filterMap id).length : Nat) : Int) = 0) = False := eq_false (by omega)
    exists lf, l0, k_vSeq
    rw [gl]
    dsimp only
    have push : (C (c ++ .lst ((row.filterMap id).map frW) :: [])).push (.lst []) = C ((c ++ .lst ((row.filterMap id).map frW) :: []) ++ .lst [] :: []) := rfl
    rw [push]
    refine cl_map (c := c ++ .lst ((row.filterMap id).map frW) :: []) (ws := (row.filterMap id).map frW) (fun us i => live_at c_get i) (fun _ => .bl true) (by rw [List.length_map]; omega) (fun w hw => ?_) ?_
    · obtain ⟨D, hD, rfl⟩ := List.mem_map.mp hw
      refine ⟨_, fun _ => rfl, rfl, fun us => run_eq ?_⟩
      have ip := ispay_ok (c := (c ++ .lst ((row.filterMap id).map frW) :: []) ++ .lst us :: []) h (seq_app (seq_app hx _) _) (hr D (mem_some hD))
      exists wipeL, kk ip
    · have at' := all_true (c := c ++ .lst ((row.filterMap id).map frW) :: []) ((row.filterMap id).map frW)
      exists at', truth
      rw [List.append_assoc, c_trim rfl]
      exact ⟨rfl, rfl⟩
theorem bound_ok (h : PoolQ k s) (hx : seqOf (C c) x = some [frW k, frW s, .int (n : Nat)]) {D : Rat} (hD : PayQ s D) : F__bound [x, frW D] (C c) = .ok (boundW k s (some D)) (C c) := by
  refine run_eq ?_
  unfold F__bound
  have i1 : ∀ (X : XP) (P : W → Sto → Prop), Ok (wIx x (.int 1) (C c)) X P = P (frW s) (C c) := fun X P => v_ix hx rfl
  have p1 := plus_ok (c := c) (hD.b.mono (by decide)) (h.bs.mono (by decide : 7 ≤ 4000))
  have o1 := over_ok (c := c) (ds_pos h hD.d0)
  have t1 := times_ok (c := c) (h.br.mono (by decide)) ((bd_inv (bd_add hD.b h.bs) (by decide)).mono (by decide : 88 ≤ 4000))
  by_cases h0 : D = 0
  · have n0 : (D.num = 0) = True := eq_true (Rat.num_eq_zero.mpr h0)
    exists kk (returned_ok (c := c) h hx), i1, kk p1, kk o1, kk t1, i0_fr, n0, (by decide : (2 : Nat) ≤ 1000)
    rw [c_trim0 rfl]
    refine ⟨?_, rfl⟩
    show _ = W.tup [frW (lowQ k s D), frW (highQ k D)]
    unfold highQ
    rw [if_pos h0]; rfl
  · have n0 : (D.num = 0) = False := eq_false fun e => h0 (Rat.num_eq_zero.mp e)
    have hp : 0 < D := Rat.lt_of_le_of_ne hD.d0 (Ne.symm h0)
    have o2 := over_ok (c := c) hp
    have t2 := times_ok (c := c) (h.br.mono (by decide)) ((bd_inv hD.b (by decide)).mono (by decide : 80 ≤ 4000))
    have bt : Bq 4000 ((1 - k) * D⁻¹) := (bd_mul h.br (bd_inv hD.b (by decide))).mono (by decide)
    have push : (C c).push (.lst [.tup [.int 1, .int 1], frW ((1 - k) * D⁻¹)]) = C (c ++ .lst [.tup [.int 1, .int 1], frW ((1 - k) * D⁻¹)] :: []) := rfl
    have le := least_ok (c := c ++ .lst [.tup [.int 1, .int 1], frW ((1 - k) * D⁻¹)] :: []) (x := .ref c.length) (a := 1) (xs := [(1 - k) * D⁻¹]) c_seq (by rw [List.length_singleton]; decide) (fun q hq => by
      rcases List.mem_cons.mp hq with rfl | hq
      · exact b1
      · rw [List.mem_singleton.mp hq]; exact bt)
    exists kk (returned_ok (c := c) h hx), i1, kk p1, kk o1, kk t1, i0_fr, n0, (by decide : (2 : Nat) ≤ 1000), kk o2, kk t2, push, kk le
    rw [c_trim rfl]
    refine ⟨?_, rfl⟩
    show _ = W.tup [frW (lowQ k s D), frW (highQ k D)]
    unfold highQ
    rw [if_neg h0]; rfl
theorem bounds_ok (h : PoolQ k s) (hx : seqOf (C c) x = some [frW k, frW s, .int (n : Nat)]) {row : List (Option Rat)} (hy : seqOf (C c) y = some (row.map rowW)) (hl : row.length ≤ 4) (hr : ∀ D, some D ∈ row → PayQ s D) : F__bounds [x, y] (C c) = .ok (.ref c.length) (C (c ++ .lst (row.map (boundW k s)) :: [])) := by
  refine run_eq ?_
  unfold F__bounds
  obtain ⟨sr, ⟨sat, satx⟩, vs⟩ := vseqX (c := c) (i := 1) (l := [some x, some y, none]) hy rfl
  exists vs
  have toO : ∃ f : W → W, (row.map rowW).map f = row.map (boundW k s) ∧ f .non = .non ∧ ∀ D, f (frW D) = boundW k s (some D) := by
    refine ⟨fun w => match w with | .tup [.int a, .int b] => boundW k s (some (mkRat a b.toNat)) | _ => .non, ?_, rfl, fun D => ?_⟩
    · rw [List.map_map]
      refine List.map_congr_left fun o _ => ?_
      cases o with
      | none => rfl
      | some D => show boundW k s (some (mkRat D.num (Int.toNat (D.den : Nat)))) = _; rw [Int.toNat_natCast, Rat.mkRat_self]
    · show boundW k s (some (mkRat D.num (Int.toNat (D.den : Nat)))) = _
      rw [Int.toNat_natCast, Rat.mkRat_self]
  obtain ⟨f, f1, f2, f3⟩ := toO
  refine cl_map (c := c) (ws := row.map rowW) (fun us i => satx _ i) f (by rw [rowlen]; omega) (fun w hw => ?_) ?_
  · rcases mem_row hw with rfl | ⟨D, hD, rfl⟩
    · refine ⟨_, fun _ => rfl, by rw [f2]; rfl, fun us => run_eq ?_⟩
      have v : ∀ (st : Sto) (X : XP) (P : W → Sto → Prop), Ok (wIsN .non .non st) X P = P (.bl true) st := fun st X P => rfl
      exists wipeL, v, f2
    · refine ⟨_, fun _ => rfl, by rw [f3]; rfl, fun us => run_eq ?_⟩
      have v : ∀ (st : Sto) (X : XP) (P : W → Sto → Prop), Ok (wIsN (frW D) .non st) X P = P (.bl false) st := fun st X P => rfl
      have b := bound_ok (c := c ++ .lst us :: []) h (seq_app hx _) (hr D hD)
      exists wipeL, v, kk b, f3
  · rw [f1]
    have := c_trimL (c := c) (g := [Cell.lst (row.map (boundW k s))]) (j := 0) (P := fun b t => b = W.ref c.length ∧ t = C (c ++ .lst (row.map (boundW k s)) :: [])) (X := nX) rfl (pures_map _ (bound_pure k s) row)
    exact (show _ = _ from this).mpr ⟨rfl, rfl⟩
def lowsQ (k s : Rat) (row : List (Option Rat)) : List Rat := (row.filterMap id).map (lowQ k s)
def highsQ (k : Rat) (row : List (Option Rat)) : List Rat := (row.filterMap id).map (highQ k)
def pairW (p q : Rat) : W := .tup [frW p, frW q]
theorem filt_bound (k s : Rat) : ∀ row : List (Option Rat), ((row.map (boundW k s)).filter (fun w => match w with | .non => false | _ => true)) = (row.filterMap id).map fun D => pairW (lowQ k s D) (highQ k D)
  | [] => rfl
  | none :: r => by
    rw [List.map_cons, List.filterMap_cons, List.filter_cons, if_neg (by simp [boundW])]
    exact filt_bound k s r
  | some D :: r => by
    rw [List.map_cons, List.filterMap_cons, List.filter_cons, if_pos (by simp [boundW])]
    show _ = pairW _ _ :: _
    rw [← filt_bound k s r]; rfl
theorem spread_ok (h : PoolQ k s) (h1 : 1 ≤ n) (h4 : n ≤ 4) (hx : seqOf (C c) x = some [frW k, frW s, .int (n : Nat)]) {row : List (Option Rat)} (hy : seqOf (C c) y = some (row.map rowW)) (hl : row.length = n) (hr : ∀ D, some D ∈ row → PayQ s D) (hne : row.filterMap id ≠ []) :
    F_spread [x, y] (C c) = .ok (pairW (sumQ (lowsQ k s row)) (sumQ (highsQ k row))) (C c) := by
  refine run_eq ?_
  unfold F_spread
  have hfl : (row.filterMap id).length ≤ 4 := Nat.le_trans (List.length_filterMap_le _ _) (by omega)
  have bo := bounds_ok (c := c) h hx hy (by omega) hr
  have gl : RB.getL (C (c ++ .lst (row.map (boundW k s)) :: [])) c.length = some (row.map (boundW k s)) := by unfold RB.getL; rw [c_get]
  exists kk (need_ok (c := c) h h1 h4 hx), kk (row_ok (c := c) h h4 hx hy hl hr hne), k_vSeq, kk bo, gl
  have push1 : (C (c ++ .lst (row.map (boundW k s)) :: [])).push (.lst []) = C ((c ++ .lst (row.map (boundW k s)) :: []) ++ .lst [] :: []) := rfl
  rw [push1]
  refine cl_pure (c := c ++ .lst (row.map (boundW k s)) :: []) (ws := row.map (boundW k s)) (fun us i => live_at c_get i) (fun w => match w with | .non => false | _ => true) (fun w => w) (by rw [List.length_map]; omega) (fun w hw => ?_) ?_
  · obtain ⟨o, ho, rfl⟩ := List.mem_map.mp hw
    refine ⟨_, fun _ => rfl, fun us => run_eq ?_, fun hb => ⟨bound_pure k s o, fun us => run_eq ?_⟩⟩
    · cases o with
      | none =>
        have v : ∀ (st : Sto) (X : XP) (P : W → Sto → Prop), Ok (wNotN (boundW k s none) .non st) X P = P (.bl false) st := fun st X P => rfl
        exists wipeL, v
        rfl
      | some D =>
        have v : ∀ (st : Sto) (X : XP) (P : W → Sto → Prop), Ok (wNotN (boundW k s (some D)) .non st) X P = P (.bl true) st := fun st X P => rfl
        exists wipeL, v
        rfl
    · exists wipeL
  · rw [List.map_id', filt_bound]
    generalize hB : c ++ .lst (row.map (boundW k s)) :: [] = B
    have glB : RB.getL (C (B ++ .lst ((row.filterMap id).map fun D => pairW (lowQ k s D) (highQ k D)) :: [])) B.length = some ((row.filterMap id).map fun D => pairW (lowQ k s D) (highQ k D)) := by unfold RB.getL; rw [c_get]
    exists k_vSeq, glB
    have push2 : (C (B ++ .lst ((row.filterMap id).map fun D => pairW (lowQ k s D) (highQ k D)) :: [])).push (.lst []) = C ((B ++ .lst ((row.filterMap id).map fun D => pairW (lowQ k s D) (highQ k D)) :: []) ++ .lst [] :: []) := rfl
    rw [push2]
    have lowb : ∀ q ∈ lowsQ k s row, Bq 100 q := fun q hq => by
      obtain ⟨D, hD, rfl⟩ := List.mem_map.mp hq
      exact low_bq h (hr D (mem_some hD))
    have highb : ∀ q ∈ highsQ k row, Bq 100 q := fun q hq => by
      obtain ⟨D, hD, rfl⟩ := List.mem_map.mp hq
      exact high_bq h (hr D (mem_some hD))
    have lowl : (lowsQ k s row).length ≤ 4 := by unfold lowsQ; rw [List.length_map]; exact hfl
    have highl : (highsQ k row).length ≤ 4 := by unfold highsQ; rw [List.length_map]; exact hfl
    have fstM : ((row.filterMap id).map fun D => pairW (lowQ k s D) (highQ k D)).map (fun w => match w with | .tup [a, _] => a | _ => .non) = (lowsQ k s row).map frW := by
      unfold lowsQ; rw [List.map_map, List.map_map]; rfl
    have sndM : ((row.filterMap id).map fun D => pairW (lowQ k s D) (highQ k D)).map (fun w => match w with | .tup [_, a] => a | _ => .non) = (highsQ k row).map frW := by
      unfold highsQ; rw [List.map_map, List.map_map]; rfl
    refine cl_map (c := B ++ .lst ((row.filterMap id).map fun D => pairW (lowQ k s D) (highQ k D)) :: []) (ws := (row.filterMap id).map fun D => pairW (lowQ k s D) (highQ k D)) (fun us i => live_at c_get i) (fun w => match w with | .tup [a, _] => a | _ => .non) (by rw [List.length_map]; omega) (fun w hw => ?_) ?_
    · obtain ⟨D, hD, rfl⟩ := List.mem_map.mp hw
      refine ⟨_, fun _ => rfl, rfl, fun us => run_eq ?_⟩
      exists wipeL
      rfl
    · rw [fstM]
      have tl := total_ok (c := (B ++ .lst ((row.filterMap id).map fun D => pairW (lowQ k s D) (highQ k D)) :: []) ++ .lst ((lowsQ k s row).map frW) :: []) (x := .ref (B ++ Cell.lst ((row.filterMap id).map fun D => pairW (lowQ k s D) (highQ k D)) :: []).length) (xs := lowsQ k s row) c_seq (by omega) (fun q hq => (lowb q hq).mono (by decide)) (bq_take lowb (by have := Nat.mul_le_mul_right 101 lowl; omega))
      generalize hB2 : B ++ .lst ((row.filterMap id).map fun D => pairW (lowQ k s D) (highQ k D)) :: [] = B2 at tl ⊢
      have glB2 : RB.getL (C (B2 ++ .lst ((lowsQ k s row).map frW) :: [])) B.length = some ((row.filterMap id).map fun D => pairW (lowQ k s D) (highQ k D)) := by
        have := seq_app (x := .ref B.length) (ws := (row.filterMap id).map fun D => pairW (lowQ k s D) (highQ k D)) (c := B2) (by rw [← hB2]; exact glB) (.lst ((lowsQ k s row).map frW) :: [])
        exact this
      exists kk tl, k_vSeq, glB2
      have push3 : (C (B2 ++ .lst ((lowsQ k s row).map frW) :: [])).push (.lst []) = C ((B2 ++ .lst ((lowsQ k s row).map frW) :: []) ++ .lst [] :: []) := rfl
      rw [push3]
      have getB : (B2 ++ .lst ((lowsQ k s row).map frW) :: [])[B.length]? = some (.lst ((row.filterMap id).map fun D => pairW (lowQ k s D) (highQ k D))) := by
        rw [← hB2, List.append_assoc]
        exact c_get
      refine cl_map (c := B2 ++ .lst ((lowsQ k s row).map frW) :: []) (ws := (row.filterMap id).map fun D => pairW (lowQ k s D) (highQ k D)) (fun us i => live_at getB i) (fun w => match w with | .tup [_, a] => a | _ => .non) (by rw [List.length_map]; omega) (fun w hw => ?_) ?_
      · obtain ⟨D, hD, rfl⟩ := List.mem_map.mp hw
        refine ⟨_, fun _ => rfl, rfl, fun us => run_eq ?_⟩
        exists wipeL
        rfl
      · rw [sndM]
        have tl2 := total_ok (c := (B2 ++ .lst ((lowsQ k s row).map frW) :: []) ++ .lst ((highsQ k row).map frW) :: []) (x := .ref (B2 ++ Cell.lst ((lowsQ k s row).map frW) :: []).length) (xs := highsQ k row) c_seq (by omega) (fun q hq => (highb q hq).mono (by decide)) (bq_take highb (by have := Nat.mul_le_mul_right 101 highl; omega))
        exists kk tl2, (by decide : (2 : Nat) ≤ 1000)
        rw [← hB2, ← hB]
        simp only [List.append_assoc]
        rw [c_trim rfl]
        exact ⟨rfl, rfl⟩
theorem comes_ok (h : PoolQ k s) (h1 : 1 ≤ n) (h4 : n ≤ 4) (hx : seqOf (C c) x = some [frW k, frW s, .int (n : Nat)]) {row : List (Option Rat)} (hy : seqOf (C c) y = some (row.map rowW)) (hl : row.length = n) (hr : ∀ D, some D ∈ row → PayQ s D) (hne : row.filterMap id ≠ []) :
    F_comes [x, y] (C c) = .ok (.bl (decide (sumQ (lowsQ k s row) < 1) && !decide (sumQ (highsQ k row) < 1))) (C c) := by
  refine run_eq ?_
  unfold F_comes
  have hfl : (row.filterMap id).length ≤ 4 := Nat.le_trans (List.length_filterMap_le _ _) (by omega)
  have lowb : Bq 4000 (sumQ (lowsQ k s row)) := by
    have : ∀ q ∈ lowsQ k s row, Bq 100 q := fun q hq => by
      obtain ⟨D, hD, rfl⟩ := List.mem_map.mp hq
      exact low_bq h (hr D (mem_some hD))
    refine (bq_sum this).mono ?_
    have : (lowsQ k s row).length ≤ 4 := by unfold lowsQ; rw [List.length_map]; exact hfl
    have := Nat.mul_le_mul_right 101 this
    omega
  have highb : Bq 4000 (sumQ (highsQ k row)) := by
    have : ∀ q ∈ highsQ k row, Bq 100 q := fun q hq => by
      obtain ⟨D, hD, rfl⟩ := List.mem_map.mp hq
      exact high_bq h (hr D (mem_some hD))
    refine (bq_sum this).mono ?_
    have : (highsQ k row).length ≤ 4 := by unfold highsQ; rw [List.length_map]; exact hfl
    have := Nat.mul_le_mul_right 101 this
    omega
  have t2 : ∀ (t : Tgs) (l : Lo) (st : Sto), tgTup 2 t (pairW (sumQ (lowsQ k s row)) (sumQ (highsQ k row))) l st = t [frW (sumQ (lowsQ k s row)), frW (sumQ (highsQ k row))] l st := fun t l st => rfl
  have bl1 := below_ok (c := c) lowb b1
  have bl2 := below_ok (c := c) highb b1
  rw [one_fr] at bl1 bl2
  exists kk (spread_ok (c := c) h h1 h4 hx hy hl hr hne), t2, kk bl1, kk bl2
  by_cases hb : sumQ (lowsQ k s row) < 1
  · exists hb
    rw [c_trim0 rfl]
    exact ⟨by simp, rfl⟩
  · exists hb
    rw [c_trim0 rfl]
    exact ⟨by simp, rfl⟩
end
end LW

set_option Elab.async false
set_option linter.all false
set_option maxRecDepth 100000
set_option maxHeartbeats 4000000
namespace LW
open PySem PySem.W RB L2
local macro_rules | `(tactic| exists $es,*) => `(tactic| simp (config := {decide := false, implicitDefEqProofs := false, maxSteps := 1000000}) only [k_ok, k_exc, k_err, k_ite, k_iteS, k_nx, k_rt, k_loc, k_lit, k_nil, k_cons, k_tup, k_lst, k_bin, k_eB, k_eU, k_call, k_tru, k_not, k_and, k_or, k_if, k_eAnd, k_eOr, k_eNot, k_val, k_chain, k_sNil, k_sSeq, k_sSet, tgName, tgCons, tgNil, Option.bind_some, k_sDrop, k_sRet, k_sRetN, k_sIf, k_sBreak, k_sCont, k_sFor, k_sRaise, k_sTry, k_defn, k_rng1, k_comp,
  v_add, v_sub, v_mul, v_mod, v_div, v_lt, v_le, v_gt, v_ge, v_eq, v_ne, v_neg, v_int, v_min,
  List.map_cons, List.map_nil, List.length_cons, List.length_nil, List.replicate_succ, List.replicate_zero, List.cons_append, List.nil_append, List.append_nil, List.getElem?_cons_succ, List.getElem?_cons_zero, List.set_cons_succ, List.set_cons_zero,
  Nat.reduceAdd, Nat.reduceSub, Nat.zero_add, decide_eq_true_eq, Bool.not_eq_true', decide_eq_false_iff_not, Bool.true_eq_false, Bool.false_eq_true, if_true, if_false, ite_true, ite_false, ite_self, reduceIte, Nat.reduceLeDiff, true_and, and_true, not_true_eq_false, not_false_eq_true, decide_true, decide_false, Bool.not_true, Bool.not_false, $[$es:term],*])
section
variable {c g : List Cell} {X : XP} {P : W → Sto → Prop} {k s : Rat} {n : Nat} {ss : List Nat}
def capQ (h : Rat) : Rat := if 1 < h then 1 else h
theorem cap_min (h : Rat) : capQ h = minQ 1 [h] := by
  show (if 1 < h then 1 else h) = if h < 1 then h else 1
  by_cases a : 1 < h
  · rw [if_pos a, if_neg (fun b => Rat.not_le.mpr a (Rat.le_of_lt b))]
  · rw [if_neg a]
    by_cases b : h < 1
    · rw [if_pos b]
    · rw [if_neg b]; exact Rat.le_antisymm (Rat.not_lt.mp a) (Rat.not_lt.mp b)
theorem cap_one : capQ 1 = 1 := if_neg Rat.lt_irrefl
theorem lspread_ok (h : PoolQ k s) {row : List (Option Rat)} (hl : row.length ≤ 4) (hr : ∀ D, some D ∈ row → PayQ s D) : F__law_spread [.tup [frW k, frW s, .int (n : Nat)], .tup (row.map rowW)] (C c) = .ok (pairW (sumQ (lowsQ k s row)) (sumQ (highsQ k row))) (C c) := by
  refine run_eq ?_
  unfold F__law_spread
  have i0 : ∀ (st : Sto) (X : XP) (P : W → Sto → Prop), Ok (wIx (.tup [frW k, frW s, .int (n : Nat)]) (.int 0) st) X P = P (frW k) st := fun st X P => rfl
  have i1 : ∀ (st : Sto) (X : XP) (P : W → Sto → Prop), Ok (wIx (.tup [frW k, frW s, .int (n : Nat)]) (.int 1) st) X P = P (frW s) st := fun st X P => rfl
  have m1 := lminus_ok (c := c) b1 (h.bk.mono (by decide))
  rw [one_fr] at m1
  have vs : ∀ (a b d e f g q : Option W) (st : Sto) (X : XP) (P : Src → Sto → Prop), Ok (vSeq (eLoc 1) [a, some (.tup (row.map rowW)), b, d, e, f, g, q] st) X P = P (.fix (row.map rowW)) st := fun a b d e f g q st X P => rfl
  exists i0, (by decide : (2 : Nat) ≤ 1000), kk m1, vs
  have bLow : ∀ i, Bq 4000 (sumQ (lowsQ k s (row.take i))) := fun i => by
    have q : ∀ q ∈ lowsQ k s (row.take i), Bq 100 q := fun q hq => by
      obtain ⟨D, hD, rfl⟩ := List.mem_map.mp hq
      exact low_bq h (hr D (List.mem_of_mem_take (mem_some hD)))
    refine (bq_sum q).mono ?_
    have l1 : (lowsQ k s (row.take i)).length ≤ 4 := by
      unfold lowsQ; rw [List.length_map]
      refine Nat.le_trans (List.length_filterMap_le _ _) ?_
      rw [List.length_take]; omega
    have := Nat.mul_le_mul_right 101 l1
    omega
  have bHigh : ∀ i, Bq 4000 (sumQ (highsQ k (row.take i))) := fun i => by
    have q : ∀ q ∈ highsQ k (row.take i), Bq 100 q := fun q hq => by
      obtain ⟨D, hD, rfl⟩ := List.mem_map.mp hq
      exact high_bq h (hr D (List.mem_of_mem_take (mem_some hD)))
    refine (bq_sum q).mono ?_
    have l1 : (highsQ k (row.take i)).length ≤ 4 := by
      unfold highsQ; rw [List.length_map]
      refine Nat.le_trans (List.length_filterMap_le _ _) ?_
      rw [List.length_take]; omega
    have := Nat.mul_le_mul_right 101 l1
    omega
  have w1 : W.tup [.int 1, .int 1] = frW 1 := rfl
  refine loop_fix (row.map rowW) (fun i l st => (∃ a b d : Option W, l = [some (.tup [frW k, frW s, .int (n : Nat)]), some (.tup (row.map rowW)), some (frW (1 - k)), some (frW (sumQ (lowsQ k s (row.take i)))), some (frW (sumQ (highsQ k (row.take i)))), a, b, d]) ∧ st = C c) (fun _ _ _ _ => rfl) ?_ ?_ 1000000 0 _ _ (by rw [rowlen]; omega) (Nat.zero_le _) ⟨⟨none, none, none, rfl⟩, rfl⟩
  · rintro i w l st hw ⟨⟨a, b, d, rfl⟩, rfl⟩
    rw [List.getElem?_map] at hw
    cases eo : row[i]? with
    | none => rw [eo] at hw; cases hw
    | some o =>
      rw [eo] at hw
      cases hw
      refine ⟨_, rfl, ?_⟩
      have tk : row.take (i + 1) = row.take i ++ [o] := by rw [List.take_succ, eo]; rfl
      cases o with
      | none =>
        have v : ∀ (st : Sto) (X : XP) (P : W → Sto → Prop), Ok (wNotN (rowW none) .non st) X P = P (.bl false) st := fun st X P => rfl
        exists v
        refine ⟨some (rowW none), b, d, ?_⟩
        have e1 : lowsQ k s (row.take (i + 1)) = lowsQ k s (row.take i) := by unfold lowsQ; rw [tk, List.filterMap_append]; simp
        have e2 : highsQ k (row.take (i + 1)) = highsQ k (row.take i) := by unfold highsQ; rw [tk, List.filterMap_append]; simp
        rw [e1, e2]
      | some D =>
        have hD := hr D (List.mem_of_getElem? eo)
        have hds := ds_pos h hD.d0
        have v : ∀ (st : Sto) (X : XP) (P : W → Sto → Prop), Ok (wNotN (frW D) .non st) X P = P (.bl true) st := fun st X P => rfl
        have rD : rowW (some D) = frW D := rfl
        have p1 := lplus_ok (c := c) (hD.b.mono (by decide)) (h.bs.mono (by decide : 7 ≤ 4000))
        have bds := bd_add hD.b h.bs
        have e1 : sumQ (lowsQ k s (row.take (i + 1))) = sumQ (lowsQ k s (row.take i)) + lowQ k s D := by unfold lowsQ; rw [tk, List.filterMap_append, List.map_append]; exact sumQ_snoc _ _
        have e2 : sumQ (highsQ k (row.take (i + 1))) = sumQ (highsQ k (row.take i)) + highQ k D := by unfold highsQ; rw [tk, List.filterMap_append, List.map_append]; exact sumQ_snoc _ _
        have over : ∀ {q : Rat} {m : Nat}, 0 < q → Bq m q → m ≤ 100 → F__law_frac [.int ((1 - k).num * (q.den : Nat)), .int (((1 - k).den : Nat) * q.num)] (C c) = .ok (frW ((1 - k) * q⁻¹)) (C c) := fun {q m} hq bq hm => by
          have e : (((1 - k).den : Nat) : Int) * q.num = (((1 - k).den * q.num.natAbs : Nat) : Int) := by rw [Int.natCast_mul]; congr 1; have := num_pos hq; omega
          rw [e]
          have z := lfrac_ok (c := c) (a := (1 - k).num * (q.den : Nat)) (b := (1 - k).den * q.num.natAbs) (Nat.mul_pos (1 - k).den_pos (by have := num_pos hq; omega)) (by
            have := Nat.mul_lt_mul'' h.br.2 bq.1
            rw [← Nat.pow_add] at this
            exact Nat.lt_of_lt_of_le this (Nat.pow_le_pow_right (by decide) (by omega)))
          rw [mk_over hq] at z
          exact z
        have o1 := over hds bds (by decide)
        have mo1 := mul_bd (h.br.mono (by decide)).1 (bdn (bds.mono (by decide)))
        have mo2 := mul_bd (bdn (h.br.mono (by decide))) (bds.mono (by decide : 88 ≤ 4000)).1
        have mo3 := mul_bd (h.br.mono (by decide)).1 (bdn (hD.b.mono (by decide)))
        have mo4 := mul_bd (bdn (h.br.mono (by decide))) (hD.b.mono (by decide : 80 ≤ 4000)).1
        have p2 := lplus_ok (c := c) (bLow i) ((low_bq h hD).mono (by decide))
        rw [show lowQ k s D = (1 - k) * (D + s)⁻¹ from rfl] at p2
        have p3 := lplus_ok (c := c) (bHigh i) ((high_bq h hD).mono (by decide))
        have fin : ∀ (hh : Rat), Bq 4000 hh → capQ hh = highQ k D → ∀ (Z : Bool → Sto → Prop), True := fun _ _ _ _ => trivial
        by_cases h0 : D = 0
        · have n0 : (0 < D.num) = False := eq_false (by rw [Rat.num_eq_zero.mpr h0]; decide)
          have hq : highQ k D = 1 := by unfold highQ; rw [if_pos h0]
          have bl := lbelow_ok (c := c) b1 b1
          rw [decide_eq_false Rat.lt_irrefl] at bl
          rw [hq] at p3 e2
          rw [one_fr] at bl p3
          exists v, rD, i1, i0_fr, i1_fr, kk p1, mo1, mo2, kk o1, kk p2, n0, (by decide : (2 : Nat) ≤ 1000), kk bl, truth, kk p3
          rw [e1, e2]
          exact ⟨_, _, _, rfl⟩
        · have hp : 0 < D := Rat.lt_of_le_of_ne hD.d0 (Ne.symm h0)
          have n0 : (0 < D.num) = True := eq_true (num_pos hp)
          have o2 := over hp hD.b (by decide)
          have hq : highQ k D = capQ ((1 - k) * D⁻¹) := by unfold highQ; rw [if_neg h0, cap_min]
          have bt : Bq 4000 ((1 - k) * D⁻¹) := (bd_mul h.br (bd_inv hD.b (by decide))).mono (by decide)
          have bl := lbelow_ok (c := c) b1 bt
          rw [one_fr] at bl
          by_cases hb : 1 < (1 - k) * D⁻¹
          · have hq1 : highQ k D = 1 := by rw [hq]; unfold capQ; rw [if_pos hb]
            rw [hq1] at p3 e2
            rw [one_fr] at p3
            rw [decide_eq_true hb] at bl
            exists v, rD, i1, i0_fr, i1_fr, kk p1, mo1, mo2, kk o1, kk p2, n0, mo3, mo4, kk o2, (by decide : (2 : Nat) ≤ 1000), kk bl, truth, kk p3
            rw [e1, e2]
            exact ⟨_, _, _, rfl⟩
          · have hq1 : highQ k D = (1 - k) * D⁻¹ := by rw [hq]; unfold capQ; rw [if_neg hb]
            rw [hq1] at p3 e2
            rw [decide_eq_false hb] at bl
            exists v, rD, i1, i0_fr, i1_fr, kk p1, mo1, mo2, kk o1, kk p2, n0, mo3, mo4, kk o2, (by decide : (2 : Nat) ≤ 1000), kk bl, truth, kk p3
            rw [e1, e2]
            exact ⟨_, _, _, rfl⟩
  · rintro l st ⟨⟨a, b, d, rfl⟩, rfl⟩
    rw [rowlen, List.take_length]
    exists k_loc, (by decide : (2 : Nat) ≤ 1000)
    rw [c_trim0 rfl]
    exact ⟨rfl, rfl⟩
end
end LW

set_option Elab.async false
set_option linter.all false
set_option maxRecDepth 100000
set_option maxHeartbeats 4000000
namespace LW
open PySem PySem.W RB L2
local macro_rules | `(tactic| exists $es,*) => `(tactic| simp (config := {decide := false, implicitDefEqProofs := false, maxSteps := 1000000}) only [k_ok, k_exc, k_err, k_ite, k_iteS, k_nx, k_rt, k_loc, k_lit, k_nil, k_cons, k_tup, k_lst, k_bin, k_eB, k_eU, k_call, k_tru, k_not, k_and, k_or, k_if, k_eAnd, k_eOr, k_eNot, k_val, k_chain, k_sNil, k_sSeq, k_sSet, tgName, tgCons, tgNil, Option.bind_some, k_sDrop, k_sRet, k_sRetN, k_sIf, k_sBreak, k_sCont, k_sFor, k_sRaise, k_sTry, k_defn, k_rng1, k_comp,
  v_add, v_sub, v_mul, v_mod, v_div, v_lt, v_le, v_gt, v_ge, v_eq, v_ne, v_neg, v_int, v_min,
  List.map_cons, List.map_nil, List.length_cons, List.length_nil, List.replicate_succ, List.replicate_zero, List.cons_append, List.nil_append, List.append_nil, List.getElem?_cons_succ, List.getElem?_cons_zero, List.set_cons_succ, List.set_cons_zero,
  Nat.reduceAdd, Nat.reduceSub, Nat.zero_add, decide_eq_true_eq, Bool.not_eq_true', decide_eq_false_iff_not, Bool.true_eq_false, Bool.false_eq_true, if_true, if_false, ite_true, ite_false, ite_self, reduceIte, Nat.reduceLeDiff, true_and, and_true, not_true_eq_false, not_false_eq_true, decide_true, decide_false, Bool.not_true, Bool.not_false, $[$es:term],*])
section
variable {c g : List Cell} {X : XP} {P : W → Sto → Prop} {k s : Rat} {n : Nat} {ss : List Nat}
/-- the row that is paid of these stakes -/
def dueR (k s : Rat) (ss : List Nat) : List (Option Rat) := ss.map fun a => if a = 0 then none else some (payQ k s ss.sum a)
theorem due_W (k s : Rat) (ss : List Nat) : ss.map (payW k s ss.sum) = (dueR k s ss).map rowW := by
  unfold dueR
  rw [List.map_map]
  refine List.map_congr_left fun a _ => ?_
  show payW k s ss.sum a = rowW (if a = 0 then none else some (payQ k s ss.sum a))
  unfold payW
  split <;> rfl
theorem due_len : (dueR k s ss).length = ss.length := List.length_map ..
theorem due_vals (k s : Rat) (S : Nat) : ∀ ss : List Nat, (ss.map fun a => if a = 0 then none else some (payQ k s S a)).filterMap id = (ss.filter fun a => decide (0 < a)).map (payQ k s S)
  | [] => rfl
  | a :: r => by
    rw [List.map_cons, List.filterMap_cons, List.filter_cons]
    by_cases h : a = 0
    · subst h
      rw [if_pos rfl, if_neg (by decide)]
      exact due_vals k s S r
    · rw [if_neg h, if_pos (decide_eq_true (by omega))]
      show payQ k s S a :: _ = _ :: _
      rw [due_vals k s S r]
theorem sum_filt : ∀ ss : List Nat, (ss.filter fun a => decide (0 < a)).sum = ss.sum
  | [] => rfl
  | a :: r => by
    rw [List.filter_cons, List.sum_cons]
    by_cases h : 0 < a
    · rw [if_pos (decide_eq_true h), List.sum_cons, sum_filt r]
    · rw [if_neg (by simp [h]), sum_filt r]; omega
theorem le_sum : ∀ {ss : List Nat} {a : Nat}, a ∈ ss → a ≤ ss.sum
  | b :: r, a, h => by
    rw [List.sum_cons]
    rcases List.mem_cons.mp h with rfl | h
    · omega
    · have := le_sum h; omega
theorem due_ok (h : PoolQ k s) (hl : ss.length ≤ 4) (hm : ∀ a ∈ ss, a < 2 ^ 31) : ∀ D, some D ∈ dueR k s ss → PayQ s D := fun D hD => by
  obtain ⟨a, ha, e⟩ := List.mem_map.mp hD
  by_cases h0 : a = 0
  · rw [if_pos h0] at e; cases e
  · rw [if_neg h0] at e
    cases e
    have hS := sum33 hl hm
    have h31 := hm a ha
    refine ⟨h.p0, ?_, (h.bp hS (by omega) (by omega)).mono (by decide)⟩
    unfold payQ
    rw [Rat.mul_assoc, Rat.mul_inv_cancel s (ne_of_pos h.s0), Rat.mul_one]
    rfl
theorem due_ne (hs : 0 < ss.sum) : (dueR k s ss).filterMap id ≠ [] := by
  unfold dueR
  rw [due_vals]
  intro e
  rw [List.map_eq_nil_iff] at e
  have := sum_filt ss
  rw [e] at this
  have z : ([] : List Nat).sum = 0 := rfl
  omega
theorem due_lows (h : PoolQ k s) (hs : 0 < ss.sum) : sumQ (lowsQ k s (dueR k s ss)) < 1 := by
  have hne := due_ne (k := k) (s := s) hs
  unfold lowsQ
  unfold dueR at hne ⊢
  rw [due_vals] at hne ⊢
  rw [List.map_map]
  have h1 := sumQ_lt (f := lowQ k s ∘ payQ k s ss.sum) (g := fun a : Nat => mkRat (a : Nat) ss.sum) (l := ss.filter fun a => decide (0 < a)) (fun e => hne (by rw [e]; rfl)) fun a ha => h.low_lt hs (of_decide_eq_true (List.mem_filter.mp ha).2)
  rw [sum_ratio hs, sum_filt, ratio_self hs] at h1
  exact h1
theorem due_highs (h : PoolQ k s) (hs : 0 < ss.sum) : ¬ sumQ (highsQ k (dueR k s ss)) < 1 := by
  unfold highsQ dueR
  rw [due_vals, List.map_map]
  have h1 := sumQ_le (f := fun a : Nat => mkRat (a : Nat) ss.sum) (g := highQ k ∘ payQ k s ss.sum) (l := ss.filter fun a => decide (0 < a)) fun a ha => h.high_ge hs (of_decide_eq_true (List.mem_filter.mp ha).2) (le_sum (List.mem_filter.mp ha).1)
  rw [sum_ratio hs, sum_filt, ratio_self hs] at h1
  exact Rat.not_lt.mpr h1
theorem plain_fr {d : Nat} (q : Rat) : plainW (d + 2) (frW q) = true := rfl
theorem plain_row {d : Nat} (row : List (Option Rat)) (hl : row.length ≤ 4) : plainW (d + 3) (.tup (row.map rowW)) = true := by
  show (decide ((row.map rowW).length < 1000000) && (row.map rowW).all (plainW (d + 2))) = true
  rw [decide_eq_true (by rw [rowlen]; omega), Bool.true_and, List.all_eq_true]
  intro w hw
  rcases mem_row hw with rfl | ⟨D, _, rfl⟩ <;> rfl
theorem loose_pool (k s : Rat) (n : Nat) : F__law_loose 6 [.tup [frW k, frW s, .int (n : Nat)], .int 0] (C c) = .ok (.ref c.length) (C (c ++ .lst [frW k, frW s, .int (n : Nat)] :: [])) := by
  have h := loose_in (c := c) (d := 5) (ws := [frW k, frW s, .int (n : Nat)]) (t := 0) (by show 3 < 1000; decide) rfl (fun w hw us => by
    rcases List.mem_cons.mp hw with rfl | hw
    · exact loose_flat (d := 3) (by show 2 < 1000; decide) (by intro w hw; rcases List.mem_cons.mp hw with rfl | hw; rfl; rw [List.mem_singleton.mp hw]; rfl) rfl (by decide)
    · rcases List.mem_cons.mp hw with rfl | hw
      · exact loose_flat (d := 3) (by show 2 < 1000; decide) (by intro w hw; rcases List.mem_cons.mp hw with rfl | hw; rfl; rw [List.mem_singleton.mp hw]; rfl) rfl (by decide)
      · rw [List.mem_singleton.mp hw]; exact loose_leaf rfl)
  rw [if_pos (by decide)] at h
  exact h
theorem loose_ints1 (ss : List Nat) (hl : ss.length ≤ 4) : F__law_loose 6 [.tup (iW ss), .int 1] (C c) = .ok (.tup (iW ss)) (C c) := loose_flat (d := 4) (by rw [iW_len]; omega) (fun w hw => by obtain ⟨a, _, rfl⟩ := mem_iW hw; rfl) (iW_pure ss) (by decide)
theorem loose_ints0 (ss : List Nat) (hl : ss.length ≤ 4) : F__law_loose 6 [.tup (iW ss), .int 0] (C c) = .ok (.ref c.length) (C (c ++ .lst (iW ss) :: [])) := by
  have h := loose_in (c := c) (d := 5) (ws := iW ss) (t := 0) (by rw [iW_len]; omega) (iW_pure ss) (fun w hw us => by obtain ⟨a, _, rfl⟩ := mem_iW hw; exact loose_leaf rfl)
  rw [if_pos (by decide)] at h
  exact h
theorem loose_row0 (row : List (Option Rat)) (hl : row.length ≤ 4) : F__law_loose 6 [.tup (row.map rowW), .int 0] (C c) = .ok (.ref c.length) (C (c ++ .lst (row.map rowW) :: [])) := by
  have h := loose_in (c := c) (d := 5) (ws := row.map rowW) (t := 0) (by rw [rowlen]; omega) (pures_map _ row_pure row) (fun w hw us => by
    rcases mem_row hw with rfl | ⟨D, _, rfl⟩
    · exact loose_leaf rfl
    · exact loose_flat (d := 3) (by show 2 < 1000; decide) (by intro w hw; rcases List.mem_cons.mp hw with rfl | hw; rfl; rw [List.mem_singleton.mp hw]; rfl) rfl (by decide))
  rw [if_pos (by decide)] at h
  exact h
end
end LW

set_option Elab.async false
set_option linter.all false
set_option maxRecDepth 100000
set_option maxHeartbeats 4000000
namespace LW
open PySem PySem.W RB L2
local macro_rules | `(tactic| exists $es,*) => `(tactic| simp (config := {decide := false, implicitDefEqProofs := false, maxSteps := 1000000}) only [k_ok, k_exc, k_err, k_ite, k_iteS, k_nx, k_rt, k_loc, k_lit, k_nil, k_cons, k_tup, k_lst, k_bin, k_eB, k_eU, k_call, k_tru, k_not, k_and, k_or, k_if, k_eAnd, k_eOr, k_eNot, k_val, k_chain, k_sNil, k_sSeq, k_sSet, tgName, tgCons, tgNil, Option.bind_some, k_sDrop, k_sRet, k_sRetN, k_sIf, k_sBreak, k_sCont, k_sFor, k_sRaise, k_sTry, k_defn, k_rng1, k_comp,
  v_add, v_sub, v_mul, v_mod, v_div, v_lt, v_le, v_gt, v_ge, v_eq, v_ne, v_neg, v_int, v_min,
  List.map_cons, List.map_nil, List.length_cons, List.length_nil, List.replicate_succ, List.replicate_zero, List.cons_append, List.nil_append, List.append_nil, List.getElem?_cons_succ, List.getElem?_cons_zero, List.set_cons_succ, List.set_cons_zero,
  Nat.reduceAdd, Nat.reduceSub, Nat.zero_add, decide_eq_true_eq, Bool.not_eq_true', decide_eq_false_iff_not, Bool.true_eq_false, Bool.false_eq_true, if_true, if_false, ite_true, ite_false, ite_self, reduceIte, Nat.reduceLeDiff, true_and, and_true, not_true_eq_false, not_false_eq_true, decide_true, decide_false, Bool.not_true, Bool.not_false, $[$es:term],*])
section
variable {c g : List Cell} {X : XP} {P : W → Sto → Prop} {k s : Rat} {n : Nat} {x y w : W}
def pairT (x y : W) : W := .tup [x, y]
theorem k_zip {as : Evs} {l : Lo} {st : Sto} {P : Src → Sto → Prop} : Ok (vZip as l st) X P = Ok (as l st) X fun ws st1 => match ws with
    | [x, y] => (match srcOf st1 x, srcOf st1 y with | some s, some s' => P (.zip s s') st1 | _, _ => False)
    | _ => False := by
  unfold vZip; rw [k_bind]; congr 1; funext ws st1
  rcases ws with _ | ⟨x, _ | ⟨y, _ | ⟨_, _⟩⟩⟩
  · rfl
  · rfl
  · dsimp only
    cases srcOf st1 x with
    | none => rfl
    | some s => cases srcOf st1 y with
      | none => rfl
      | some s' => rfl
  · rfl
theorem src_at {ws : List W} (h : seqOf (C c) x = some ws) : ∃ sr, srcOf (C c) x = some sr ∧ ∀ g j, sr.at (C (c ++ g)) j = some ws[j]? := by
  rcases seqOf_get h with rfl | ⟨m, rfl, h2⟩
  · exact ⟨.fix ws, rfl, fun _ _ => rfl⟩
  · refine ⟨.live m, ?_, fun g j => ?_⟩
    · unfold srcOf; dsimp only; rw [h2]
    · have h3 : RB.getL (C (c ++ g)) m = some ws := seq_app h g
      show (RB.getL (C (c ++ g)) m).map _ = _
      rw [h3]; rfl
theorem zip_at {s s' : Src} {st : Sto} {xs ys : List W} {i : Nat} (h : s.at st i = some xs[i]?) (h' : s'.at st i = some ys[i]?) : (Src.zip s s').at st i = some (List.zipWith pairT xs ys)[i]? := by
  show ((Src.at st i s).bind fun x => (Src.at st i s').bind fun y => match x, y with | some x, some y => some (some (W.tup [x, y])) | _, _ => some none) = _
  rw [h, h', List.getElem?_zipWith]
  cases xs[i]? <;> cases ys[i]? <;> rfl
theorem zip_map {α : Type} (f h : α → W) : ∀ l : List α, List.zipWith pairT (l.map f) (l.map h) = l.map fun a => pairT (f a) (h a)
  | [] => rfl
  | a :: r => by rw [List.map_cons, List.map_cons, List.zipWith_cons_cons, zip_map f h r]; rfl
/-- stakes and own stakes -/
abbrev Zs := List (Nat × Nat)
theorem iW_fst (zs : Zs) : iW (zs.map Prod.fst) = zs.map fun z => W.int (z.1 : Nat) := by unfold iW; rw [List.map_map]; rfl
theorem iW_snd (zs : Zs) : iW (zs.map Prod.snd) = zs.map fun z => W.int (z.2 : Nat) := by unfold iW; rw [List.map_map]; rfl
theorem own_ok {zs : Zs} (hx : seqOf (C c) x = some (iW (zs.map Prod.fst))) (hy : seqOf (C c) y = some (iW (zs.map Prod.snd))) (hl : zs.length ≤ 4) (hz : ∀ z ∈ zs, z.2 ≤ z.1) : F__are_own [x, y] (C c) = .ok (.bl true) (C c) := by
  refine run_eq ?_
  unfold F__are_own
  have lx : ∀ (X : XP) (P : W → Sto → Prop), Ok (fLen [x] (C c)) X P = P (.int (zs.length : Nat)) (C c) := fun X P => by rw [lenS hx, iW_len, List.length_map]
  have ly : ∀ (X : XP) (P : W → Sto → Prop), Ok (fLen [y] (C c)) X P = P (.int (zs.length : Nat)) (C c) := fun X P => by rw [lenS hy, iW_len, List.length_map]
  obtain ⟨s1, e1, a1⟩ := src_at hx
  obtain ⟨s2, e2, a2⟩ := src_at hy
  exists kk (seq_ok (c := c) hy), lx, ly, truth, k_zip, e1, e2
  refine cl_map (c := c) (ws := zs.map fun z => pairT (.int (z.2 : Nat)) (.int (z.1 : Nat))) (fun us i => ?_) (fun _ => .bl true) (by rw [List.length_map]; omega) (fun w hw => ?_) ?_
  · rw [zip_at (a2 _ i) (a1 _ i), iW_fst, iW_snd, zip_map]
  · obtain ⟨z, hz2, rfl⟩ := List.mem_map.mp hw
    refine ⟨_, fun _ => rfl, rfl, fun us => run_eq ?_⟩
    have wi := within_ok (c := c ++ .lst us :: []) (z.2 : Nat) 0 (z.1 : Nat)
    have e1 : (decide ((0 : Int) ≤ (z.2 : Nat)) && decide (((z.2 : Nat) : Int) ≤ (z.1 : Nat))) = true := by have := hz z hz2; rw [decide_eq_true (by omega), decide_eq_true (by omega)]; rfl
    rw [e1] at wi
    exists wipeL, kk wi
  · have at' := all_true (c := c) (zs.map fun z => pairT (.int (z.2 : Nat)) (.int (z.1 : Nat)))
    exists at'
    rw [c_trim rfl]
    exact ⟨rfl, rfl⟩
theorem won_ok (h : PoolQ k s) {S a o : Nat} (hS : S < 2 ^ 33) (ha : a < 2 ^ 33) (ho : o < 2 ^ 33) : F__won [.int (o : Nat), payW k s S a] (C c) = .ok (frW (wonQ k s S a o)) (C c) := by
  refine run_eq ?_
  unfold F__won
  by_cases h0 : a = 0
  · have v : ∀ (st : Sto) (X : XP) (P : W → Sto → Prop), Ok (wIsN (payW k s S a) .non st) X P = P (.bl true) st := fun st X P => by unfold payW; rw [if_pos h0]; rfl
    exists v
    rw [c_trim0 rfl]
    refine ⟨?_, rfl⟩
    unfold wonQ; rw [if_pos h0]; rfl
  · have e : payW k s S a = frW (payQ k s S a) := by unfold payW; rw [if_neg h0]
    have v : ∀ (st : Sto) (X : XP) (P : W → Sto → Prop), Ok (wIsN (frW (payQ k s S a)) .non st) X P = P (.bl false) st := fun st X P => rfl
    have t := times_ok (c := c) (p := ((o : Nat) : Rat)) ((bd_int (a := (o : Nat)) (k := 34) (by rw [Int.natAbs_natCast]; omega) (by decide)).mono (by decide)) ((h.bp hS ha (by omega)).mono (by decide : 59 ≤ 4000))
    have eo : frW ((o : Nat) : Rat) = .tup [.int (o : Nat), .int 1] := rfl
    rw [eo] at t
    exists e, v, (by decide : (2 : Nat) ≤ 1000), kk t
    rw [c_trim0 (fr_pure _)]
    refine ⟨?_, rfl⟩
    unfold wonQ; rw [if_neg h0]
theorem gain_ok (h : PoolQ k s) (h1 : 1 ≤ n) (h4 : n ≤ 4) (hw : seqOf (C c) w = some [frW k, frW s, .int (n : Nat)]) {zs : Zs} (hx : seqOf (C c) x = some (iW (zs.map Prod.fst))) (hy : seqOf (C c) y = some (iW (zs.map Prod.snd))) (hl : zs.length = n) (hz : ∀ z ∈ zs, z.2 ≤ z.1)
    {S O : Nat} (hS : (zs.map Prod.fst).sum = S) (hO : (zs.map Prod.snd).sum = O) (hpos : 0 < S) (hm : ∀ z ∈ zs, z.1 ≤ 1000000000) (hS33 : S < 2 ^ 33) (hO33 : O < 2 ^ 33) : F_pool_gain [w, x, y] (C c) = .ok (.tup (zs.map fun z => frW (gainQ k s S O z.1 z.2))) (C c) := by
  refine run_eq ?_
  unfold F_pool_gain
  have hm2 : ∀ a ∈ zs.map Prod.fst, a ≤ 1000000000 := fun a ha => by obtain ⟨z, hz, rfl⟩ := List.mem_map.mp ha; exact hm z hz
  have st := stakes_ok (c := c) h4 hw hx (by rw [List.length_map]; exact hl) (by rw [hS]; exact hpos) hm2
  have sm := v_sumN (st := C c) (x := y) (l := zs.map Prod.snd) hy
  rw [hO] at sm
  have pm := payments_ok (c := c) h h1 h4 hw hx (by rw [List.length_map]; exact hl) (by rw [hS]; exact hpos) hm2 (by rw [hS]; exact hS33)
  rw [hS, List.map_map] at pm
  obtain ⟨s1, e1, a1⟩ := src_at hy
  have e2 : srcOf (C c) (.tup (zs.map (payW k s S ∘ Prod.fst))) = some (.fix (zs.map (payW k s S ∘ Prod.fst))) := rfl
  exists kk (need_ok (c := c) h h1 h4 hw), kk st, kk (own_ok (c := c) hx hy (by omega) hz), truth, sm, (by decide : (2 : Nat) ≤ 1000), k_zip, kk pm, e1, e2
  have zf : (fun z : Nat × Nat => frW (gainQ k s S O z.1 z.2)) = fun z => frW (gainQ k s S O z.1 z.2) := rfl
  have toG : ∃ f : W → W, ∀ z ∈ zs, f (pairT (.int (z.2 : Nat)) (payW k s S z.1)) = frW (gainQ k s S O z.1 z.2) := by
    refine ⟨fun w => match w with | .tup [.int o, .tup [.int a, .int b]] => frW (((o : Int) : Rat) * mkRat a b.toNat - ((O : Nat) : Rat)) | _ => frW (0 - ((O : Nat) : Rat)), fun z hz2 => ?_⟩
    unfold gainQ wonQ payW pairT
    by_cases h0 : z.1 = 0
    · rw [if_pos h0, if_pos h0]
    · rw [if_neg h0, if_neg h0]
      show frW (_ * mkRat (payQ k s S z.1).num (Int.toNat (payQ k s S z.1).den) - _) = _
      rw [Int.toNat_natCast, Rat.mkRat_self]; rfl
  obtain ⟨f, hf⟩ := toG
  have mf : (zs.map fun z => pairT (.int (z.2 : Nat)) (payW k s S z.1)).map f = zs.map fun z => frW (gainQ k s S O z.1 z.2) := by
    rw [List.map_map]
    exact List.map_congr_left fun z hz2 => hf z hz2
  refine cl_map (c := c) (ws := zs.map fun z => pairT (.int (z.2 : Nat)) (payW k s S z.1)) (fun us i => ?_) f (by rw [List.length_map]; omega) (fun w hw2 => ?_) ?_
  · have := zip_at (s' := .fix (zs.map (payW k s S ∘ Prod.fst))) (ys := zs.map (payW k s S ∘ Prod.fst)) (a1 (.lst us :: []) i) rfl
    rw [this, iW_snd, zip_map]; rfl
  · obtain ⟨z, hz2, rfl⟩ := List.mem_map.mp hw2
    refine ⟨_, fun _ => rfl, by rw [hf z hz2]; rfl, fun us => run_eq ?_⟩
    have z1 := hm z hz2
    have z2 := hz z hz2
    have wo := won_ok (c := c ++ .lst us :: []) h hS33 (a := z.1) (o := z.2) (by omega) (by omega)
    have mi := minus_ok (c := c ++ .lst us :: []) ((h.bwon hS33 (a := z.1) (o := z.2) (by omega) (by omega)).mono (by decide)) ((bd_int (a := (O : Nat)) (k := 34) (by rw [Int.natAbs_natCast]; omega) (by decide)).mono (by decide : 34 ≤ 4000))
    have eO : frW (((O : Nat) : Int) : Rat) = .tup [.int (O : Nat), .int 1] := rfl
    rw [eO] at mi
    rw [hf z hz2]
    exists wipeL, kk wo, kk mi
    rfl
  · rw [mf, v_tup c_seq, c_trim (show W.pure (.tup (zs.map fun z => frW (gainQ k s S O z.1 z.2))) = true by simp only [W.pure]; exact pures_map _ (fun z => fr_pure _) zs)]
    exact ⟨rfl, rfl⟩
end
end LW

set_option Elab.async false
set_option linter.all false
set_option maxRecDepth 100000
set_option maxHeartbeats 4000000
namespace LW
open PySem PySem.W RB L2
local macro_rules | `(tactic| exists $es,*) => `(tactic| simp (config := {decide := false, implicitDefEqProofs := false, maxSteps := 1000000}) only [k_ok, k_exc, k_err, k_ite, k_iteS, k_nx, k_rt, k_loc, k_lit, k_nil, k_cons, k_tup, k_lst, k_bin, k_eB, k_eU, k_call, k_tru, k_not, k_and, k_or, k_if, k_eAnd, k_eOr, k_eNot, k_val, k_chain, k_sNil, k_sSeq, k_sSet, tgName, tgCons, tgNil, Option.bind_some, k_sDrop, k_sRet, k_sRetN, k_sIf, k_sBreak, k_sCont, k_sFor, k_sRaise, k_sTry, k_defn, k_rng1, k_comp,
  v_add, v_sub, v_mul, v_mod, v_div, v_lt, v_le, v_gt, v_ge, v_eq, v_ne, v_neg, v_int, v_min,
  List.map_cons, List.map_nil, List.length_cons, List.length_nil, List.replicate_succ, List.replicate_zero, List.cons_append, List.nil_append, List.append_nil, List.getElem?_cons_succ, List.getElem?_cons_zero, List.set_cons_succ, List.set_cons_zero,
  Nat.reduceAdd, Nat.reduceSub, Nat.zero_add, decide_eq_true_eq, Bool.not_eq_true', decide_eq_false_iff_not, Bool.true_eq_false, Bool.false_eq_true, if_true, if_false, ite_true, ite_false, ite_self, reduceIte, Nat.reduceLeDiff, true_and, and_true, not_true_eq_false, not_false_eq_true, decide_true, decide_false, Bool.not_true, Bool.not_false, $[$es:term],*])
section
variable {c g : List Cell} {X : XP} {P : W → Sto → Prop} {k s : Rat} {n : Nat} {w x y : W}
theorem run_exc {α : Type} {r : Res α} {k : Nat} {p : W} {t : Sto} (h : Ok r (fun k' p' t' => k' = k ∧ p' = p ∧ t' = t) fun _ _ => False) : r = .exc k p t := by
  cases r with
  | ok b u => exact h.elim
  | exc k' p' u => obtain ⟨rfl, rfl, rfl⟩ := h; rfl
  | err => exact h.elim
theorem kx {α : Type} {r : Res α} {k : Nat} {p : W} {t : Sto} (h : r = .exc k p t) (X : XP) (P : α → Sto → Prop) : Ok r X P = X k p t := by rw [h]; rfl
def isInt : W → Bool
  | .int _ => true
  | _ => false
def isTup : W → Bool
  | .tup _ => true
  | _ => false
def wiB (lo hi : Int) : W → Bool
  | .int z => decide (lo ≤ z) && decide (z ≤ hi)
  | _ => false
def frB : W → Bool
  | .tup [.int a, .int b] => decide (0 < b) && decide (Nat.gcd a.natAbs b.natAbs = 1)
  | _ => false
def amB : W → Bool
  | .tup [.int a, .int b] => (decide (0 < b) && decide (Nat.gcd a.natAbs b.natAbs = 1)) && decide (0 ≤ a)
  | _ => false
theorem int_any (h : W.pure w = true) : F_is_integer [w] (C c) = .ok (.bl (isInt w)) (C c) := by
  refine run_eq ?_
  unfold F_is_integer
  cases w with
  | ref n => cases h
  | non => exists k_isi, tnOf, ans_int, ans_bool; rw [c_trim0 rfl]; exact ⟨rfl, rfl⟩
  | bl b => exists k_isi, tnOf, ans_int, ans_bool; rw [c_trim0 rfl]; exact ⟨rfl, rfl⟩
  | int b => exists k_isi, tnOf, ans_int, ans_bool; rw [c_trim0 rfl]; exact ⟨rfl, rfl⟩
  | str b => exists k_isi, tnOf, ans_int, ans_bool; rw [c_trim0 rfl]; exact ⟨rfl, rfl⟩
  | tup b => exists k_isi, tnOf, ans_int, ans_bool; rw [c_trim0 rfl]; exact ⟨rfl, rfl⟩
theorem wi_any (h : W.pure w = true) (lo hi : Int) : F_is_integer_within [w, .int lo, .int hi] (C c) = .ok (.bl (wiB lo hi w)) (C c) := by
  cases hi2 : isInt w with
  | true =>
    cases w with
    | int z => exact within_ok z lo hi
    | _ => cases hi2
  | false =>
    refine run_eq ?_
    unfold F_is_integer_within
    have i := int_any (c := c) h
    rw [hi2] at i
    exists kk i
    rw [c_trim0 rfl]
    refine ⟨?_, rfl⟩
    cases w with
    | int z => cases hi2
    | _ => rfl
theorem seq_any (h : W.pure w = true) : F_is_sequence [w] (C c) = .ok (.bl (isTup w)) (C c) := by
  refine run_eq ?_
  unfold F_is_sequence
  cases w with
  | ref n => cases h
  | non => exists k_isi, tnOf, ans_list_tuple; rw [c_trim0 rfl]; exact ⟨rfl, rfl⟩
  | bl b => exists k_isi, tnOf, ans_list_tuple; rw [c_trim0 rfl]; exact ⟨rfl, rfl⟩
  | int b => exists k_isi, tnOf, ans_list_tuple; rw [c_trim0 rfl]; exact ⟨rfl, rfl⟩
  | str b => exists k_isi, tnOf, ans_list_tuple; rw [c_trim0 rfl]; exact ⟨rfl, rfl⟩
  | tup b => exists k_isi, tnOf, ans_list_tuple; rw [c_trim0 rfl]; exact ⟨rfl, rfl⟩
theorem fr_any (h : W.pure w = true) : F_is_fraction [w] (C c) = .ok (.bl (frB w)) (C c) := by
  refine run_eq ?_
  have sq := seq_any (c := c) h
  by_cases ht : isTup w = true
  · obtain ⟨ws, rfl⟩ : ∃ ws, w = .tup ws := by
      cases w with
      | tup ws => exact ⟨ws, rfl⟩
      | _ => cases ht
    have sq := seq_ok (c := c) (x := .tup ws) (ws := ws) rfl
    have ln : ∀ (X : XP) (P : W → Sto → Prop), Ok (fLen [.tup ws] (C c)) X P = P (.int (ws.length : Nat)) (C c) := fun X P => lenS rfl X P
    by_cases h2 : ws.length = 2
    · obtain ⟨a, b, rfl⟩ : ∃ a b, ws = [a, b] := by
        rcases ws with _ | ⟨a, _ | ⟨b, _ | ⟨d, r⟩⟩⟩
        · cases h2
        · cases h2
        · exact ⟨a, b, rfl⟩
        · simp at h2
      have hp : W.pure a = true ∧ W.pure b = true := by
        have h : (W.pure a && (W.pure b && true)) = true := h
        simpa using h
      have t2 : ∀ (t : Tgs) (l : Lo), tgTup 2 t (.tup [a, b]) l (C c) = t [a, b] l (C c) := fun t l => tup2 rfl
      have ia := int_any (c := c) hp.1
      have ib := int_any (c := c) hp.2
      have e2 : ((([a, b] : List W).length : Nat) : Int) = 2 := rfl
      have ln2 : ∀ (X : XP) (P : W → Sto → Prop), Ok (fLen [.tup [a, b]] (C c)) X P = P (.int 2) (C c) := fun X P => by rw [lenS (x := .tup [a, b]) (ws := [a, b]) rfl]; rfl
      unfold F_is_fraction
      cases qa : isInt a with
      | false =>
        rw [qa] at ia
        exists kk sq, ln2, t2, kk ia, truth
        rw [c_trim0 rfl]
        refine ⟨?_, rfl⟩
        cases a with
        | int z => cases qa
        | _ => rfl
      | true =>
        rw [qa] at ia
        obtain ⟨za, rfl⟩ : ∃ z, a = .int z := by
          cases a with
          | int z => exact ⟨z, rfl⟩
          | _ => cases qa
        cases qb : isInt b with
        | false =>
          rw [qb] at ib
          exists kk sq, ln2, t2, kk ia, kk ib, truth
          rw [c_trim0 rfl]
          refine ⟨?_, rfl⟩
          cases b with
          | int z => cases qb
          | _ => rfl
        | true =>
          rw [qb] at ib
          obtain ⟨zb, rfl⟩ : ∃ z, b = .int z := by
            cases b with
            | int z => exact ⟨z, rfl⟩
            | _ => cases qb
          have gg : ∀ (X : XP) (P : W → Sto → Prop), Ok (fGcd [.int za, .int zb] (C c)) X P = P (.int ((Nat.gcd za.natAbs zb.natAbs : Nat) : Int)) (C c) := fun X P => rfl
          by_cases h0 : 0 < zb
          · exists kk sq, ln2, t2, kk ia, kk ib, truth, h0, gg
            rw [c_trim0 rfl]
            refine ⟨?_, rfl⟩
            show W.bl (decide _) = W.bl (decide (0 < zb) && decide _)
            rw [decide_eq_true h0, Bool.true_and]
            congr 1
            exact decide_eq_decide.mpr (by omega)
          · exists kk sq, ln2, t2, kk ia, kk ib, truth, h0
            rw [c_trim0 rfl]
            refine ⟨?_, rfl⟩
            show W.bl false = W.bl (decide (0 < zb) && decide _)
            rw [decide_eq_false h0]; rfl
    · have e2 : (((ws.length : Nat) : Int) = 2) = False := eq_false (by omega)
      unfold F_is_fraction
      exists kk sq, ln, e2, truth
      rw [c_trim0 rfl]
      refine ⟨?_, rfl⟩
      rcases ws with _ | ⟨a, _ | ⟨b, _ | ⟨d, r⟩⟩⟩
      · rfl
      · cases a <;> rfl
      · exact absurd rfl h2
      · cases a <;> first | rfl | (cases b <;> rfl)
  · have ht : isTup w = false := by simpa using ht
    rw [ht] at sq
    unfold F_is_fraction
    exists kk sq, truth
    rw [c_trim0 rfl]
    refine ⟨?_, rfl⟩
    cases w with
    | tup ws => cases ht
    | _ => rfl
theorem am_any (h : W.pure w = true) : F_is_amount [w] (C c) = .ok (.bl (amB w)) (C c) := by
  refine run_eq ?_
  unfold F_is_amount
  have f := fr_any (c := c) h
  cases hf : frB w with
  | false =>
    rw [hf] at f
    exists kk f
    rw [c_trim0 rfl]
    refine ⟨?_, rfl⟩
    unfold frB at hf
    unfold amB
    split at hf
    · rename_i a b
      show W.bl false = W.bl (_ && decide (0 ≤ a))
      rw [hf]; rfl
    · rfl
  | true =>
    rw [hf] at f
    unfold frB at hf
    split at hf
    · rename_i a b
      have i0 : ∀ (X : XP) (P : W → Sto → Prop), Ok (wIx (.tup [.int a, .int b]) (.int 0) (C c)) X P = P (.int a) (C c) := fun X P => rfl
      exists kk f, i0
      rw [c_trim0 rfl]
      refine ⟨?_, rfl⟩
      show W.bl _ = W.bl (_ && decide (0 ≤ a))
      rw [hf, Bool.true_and]
    · cases hf
end
end LW

set_option Elab.async false
set_option linter.all false
set_option maxRecDepth 100000
set_option maxHeartbeats 4000000
namespace LW
open PySem PySem.W RB L2
local macro_rules | `(tactic| exists $es,*) => `(tactic| simp (config := {decide := false, implicitDefEqProofs := false, maxSteps := 1000000}) only [k_ok, k_exc, k_err, k_ite, k_iteS, k_nx, k_rt, k_loc, k_lit, k_nil, k_cons, k_tup, k_lst, k_bin, k_eB, k_eU, k_call, k_tru, k_not, k_and, k_or, k_if, k_eAnd, k_eOr, k_eNot, k_val, k_chain, k_sNil, k_sSeq, k_sSet, tgName, tgCons, tgNil, Option.bind_some, k_sDrop, k_sRet, k_sRetN, k_sIf, k_sBreak, k_sCont, k_sFor, k_sRaise, k_sTry, k_defn, k_rng1, k_comp,
  v_add, v_sub, v_mul, v_mod, v_div, v_lt, v_le, v_gt, v_ge, v_eq, v_ne, v_neg, v_int, v_min,
  List.map_cons, List.map_nil, List.length_cons, List.length_nil, List.replicate_succ, List.replicate_zero, List.cons_append, List.nil_append, List.append_nil, List.getElem?_cons_succ, List.getElem?_cons_zero, List.set_cons_succ, List.set_cons_zero,
  Nat.reduceAdd, Nat.reduceSub, Nat.zero_add, decide_eq_true_eq, Bool.not_eq_true', decide_eq_false_iff_not, Bool.true_eq_false, Bool.false_eq_true, if_true, if_false, ite_true, ite_false, ite_self, reduceIte, Nat.reduceLeDiff, true_and, and_true, not_true_eq_false, not_false_eq_true, decide_true, decide_false, Bool.not_true, Bool.not_false, $[$es:term],*])
section
variable {c g : List Cell} {X : XP} {P : W → Sto → Prop} {k s : Rat} {n : Nat} {w x y z : W}
theorem x_may (w : W) (h : W.pure w = true) : ((C c).may c.length && W.pure w) = true := by rw [h]; rfl
theorem x_cut : (C c).cut c.length = C c := by show C (c.take c.length) = C c; rw [List.take_length]
theorem below_pair {a b u v : Int} (ha : a.natAbs < 2 ^ 4000) (hb : b.natAbs < 2 ^ 4000) (hu : u.natAbs < 2 ^ 4000) (hv : v.natAbs < 2 ^ 4000) : F_is_below [.tup [.int a, .int b], .tup [.int u, .int v]] (C c) = .ok (.bl (decide (a * v < u * b))) (C c) := by
  refine run_eq ?_
  unfold F_is_below
  have i0 : ∀ (p q : Int) (st : Sto) (X : XP) (P : W → Sto → Prop), Ok (wIx (.tup [.int p, .int q]) (.int 0) st) X P = P (.int p) st := fun p q st X P => rfl
  have i1 : ∀ (p q : Int) (st : Sto) (X : XP) (P : W → Sto → Prop), Ok (wIx (.tup [.int p, .int q]) (.int 1) st) X P = P (.int q) st := fun p q st X P => rfl
  exists i0, i1, mul_bd ha hv, mul_bd hu hb
  rw [c_trim0 rfl]
  exact ⟨rfl, rfl⟩
theorem tiny {z : Int} (h : z.natAbs < 2 ^ 60) : z.natAbs < 2 ^ 4000 := Nat.lt_of_lt_of_le h (Nat.pow_le_pow_right (by decide) (by decide))
/-- what may be asked whether it is kept, or a step -/
def keptB : W → Bool
  | .tup [.int a, .int b] => ((decide (0 < b) && decide (Nat.gcd a.natAbs b.natAbs = 1)) && decide (0 ≤ a)) && decide (a * 1 < 1 * b)
  | _ => false
def stepB : W → Bool
  | .tup [.int a, .int b] => (((decide (0 < b) && decide (Nat.gcd a.natAbs b.natAbs = 1)) && decide (0 ≤ a)) && !decide (a = 0)) && (!decide (1 * b < a * 1) && decide (b ≤ 100))
  | _ => false
def tinyW : W → Prop
  | .tup [.int a, .int b] => a.natAbs < 2 ^ 60 ∧ b.natAbs < 2 ^ 60
  | _ => True
theorem am_pair {w : W} (h : amB w = true) : ∃ a b, w = .tup [.int a, .int b] := by
  unfold amB at h
  split at h
  · exact ⟨_, _, rfl⟩
  · cases h
theorem kept_any (hp : W.pure w = true) (ht : tinyW w) : F__is_kept [w] (C c) = .ok (.bl (keptB w)) (C c) := by
  refine run_eq ?_
  unfold F__is_kept
  have a := am_any (c := c) hp
  cases q : amB w with
  | false =>
    rw [q] at a
    exists kk a
    rw [c_trim0 rfl]
    refine ⟨?_, rfl⟩
    unfold keptB
    split
    · have q : ((decide _ && decide _) && decide _) = false := q
      rw [q]; rfl
    · rfl
  | true =>
    rw [q] at a
    obtain ⟨u, v, rfl⟩ := am_pair q
    have b := below_pair (c := c) (tiny ht.1) (tiny ht.2) (u := 1) (v := 1) (tiny (by decide)) (tiny (by decide))
    exists kk a, kk b
    rw [c_trim0 rfl]
    refine ⟨?_, rfl⟩
    show W.bl _ = W.bl (((decide _ && decide _) && decide _) && decide _)
    have q : ((decide _ && decide _) && decide _) = true := q
    rw [q, Bool.true_and]
theorem step_any (hp : W.pure w = true) (ht : tinyW w) : F__is_step [w] (C c) = .ok (.bl (stepB w)) (C c) := by
  refine run_eq ?_
  unfold F__is_step
  have a := am_any (c := c) hp
  cases q : amB w with
  | false =>
    rw [q] at a
    exists kk a, truth
    rw [c_trim0 rfl]
    refine ⟨?_, rfl⟩
    unfold stepB
    split
    · have q : ((decide _ && decide _) && decide _) = false := q
      rw [q]; rfl
    · rfl
  | true =>
    rw [q] at a
    obtain ⟨u, v, rfl⟩ := am_pair q
    have i0 : ∀ (st : Sto) (X : XP) (P : W → Sto → Prop), Ok (wIx (.tup [.int u, .int v]) (.int 0) st) X P = P (.int u) st := fun st X P => rfl
    have i1 : ∀ (st : Sto) (X : XP) (P : W → Sto → Prop), Ok (wIx (.tup [.int u, .int v]) (.int 1) st) X P = P (.int v) st := fun st X P => rfl
    have b := below_pair (c := c) (a := 1) (b := 1) (tiny (by decide)) (tiny (by decide)) (tiny ht.1) (tiny ht.2)
    have e : stepB (.tup [.int u, .int v]) = ((((decide (0 < v) && decide (Nat.gcd u.natAbs v.natAbs = 1)) && decide (0 ≤ u)) && !decide (u = 0)) && (!decide (1 * v < u * 1) && decide (v ≤ 100))) := rfl
    have q : ((decide (0 < v) && decide (Nat.gcd u.natAbs v.natAbs = 1)) && decide (0 ≤ u)) = true := q
    rw [q, Bool.true_and] at e
    rw [e]
    by_cases h0 : u = 0
    · exists kk a, i0, (eq_true h0 : (u = 0) = True), truth
      rw [c_trim0 rfl]
      exact ⟨rfl, rfl⟩
    · by_cases h1 : 1 * v < u * 1
      · rw [decide_eq_true h1] at b
        exists kk a, i0, h0, truth, kk b
        rw [c_trim0 rfl, decide_eq_true h1]
        exact ⟨rfl, rfl⟩
      · rw [decide_eq_false h1] at b
        exists kk a, i0, i1, h0, truth, kk b
        rw [c_trim0 rfl, decide_eq_false h1]
        exact ⟨rfl, rfl⟩
theorem kept_frW (h : PoolQ k s) : keptB (frW k) = true ∧ tinyW (frW k) ∧ stepB (frW s) = true ∧ tinyW (frW s) := by
  have a1 := kept_ok (c := []) h
  have a2 := step_ok (c := []) h
  have t1 : tinyW (frW k) := ⟨Nat.lt_of_lt_of_le h.bk.1 (by decide), by rw [Int.natAbs_natCast]; exact Nat.lt_of_lt_of_le h.bk.2 (by decide)⟩
  have t2 : tinyW (frW s) := ⟨Nat.lt_of_lt_of_le h.bs.1 (by decide), by rw [Int.natAbs_natCast]; exact Nat.lt_of_lt_of_le h.bs.2 (by decide)⟩
  rw [kept_any rfl t1] at a1
  rw [step_any rfl t2] at a2
  injection a1 with a1 _
  injection a2 with a2 _
  injection a1 with a1
  injection a2 with a2
  exact ⟨a1, t1, a2, t2⟩
/-- a value that is no pool -/
def badPool : W → Bool
  | .tup [a, b, d] => !(keptB a && (stepB b && wiB 1 4 d))
  | _ => true
def tinyP : W → Prop
  | .tup [a, b, _] => tinyW a ∧ tinyW b
  | _ => True
theorem need_bad (hp : W.pure w = true) (ht : tinyP w) (hb : badPool w = true) : F__need_pool [w] (C c) = .exc 0 (.int 1) (C c) := by
  refine run_exc ?_
  unfold F__need_pool
  have sq := seq_any (c := c) hp
  by_cases h1 : isTup w = true
  · obtain ⟨ws, rfl⟩ : ∃ ws, w = .tup ws := by
      cases w with
      | tup ws => exact ⟨ws, rfl⟩
      | _ => cases h1
    rw [h1] at sq
    by_cases h3 : ws.length = 3
    · obtain ⟨a, b, d, rfl⟩ : ∃ a b d, ws = [a, b, d] := by
        rcases ws with _ | ⟨a, _ | ⟨b, _ | ⟨d, _ | ⟨e, r⟩⟩⟩⟩
        · cases h3
        · cases h3
        · cases h3
        · exact ⟨a, b, d, rfl⟩
        · simp at h3
      have hq : W.pure a = true ∧ W.pure b = true ∧ W.pure d = true := by
        have h : (W.pure a && (W.pure b && (W.pure d && true))) = true := hp
        simpa using h
      have ln : ∀ (X : XP) (P : W → Sto → Prop), Ok (fLen [.tup [a, b, d]] (C c)) X P = P (.int 3) (C c) := fun X P => by rw [lenS (x := .tup [a, b, d]) (ws := [a, b, d]) rfl]; rfl
      have t3 : ∀ (t : Tgs) (l : Lo), tgTup 3 t (.tup [a, b, d]) l (C c) = t [a, b, d] l (C c) := fun t l => tup3 rfl
      have ka := kept_any (c := c) hq.1 ht.1
      have sb := step_any (c := c) hq.2.1 ht.2
      have wd := wi_any (c := c) hq.2.2 1 4
      have hb : (!(keptB a && (stepB b && wiB 1 4 d))) = true := hb
      cases q1 : keptB a with
      | false =>
        rw [q1] at ka
        exists kk sq, ln, t3, kk ka, truth
        rw [if_pos (x_may _ rfl)]; exact x_cut
      | true =>
        rw [q1] at ka hb
        cases q2 : stepB b with
        | false =>
          rw [q2] at sb
          exists kk sq, ln, t3, kk ka, kk sb, truth
          rw [if_pos (x_may _ rfl)]; exact x_cut
        | true =>
          rw [q2] at sb hb
          cases q3 : wiB 1 4 d with
          | false =>
            rw [q3] at wd
            exists kk sq, ln, t3, kk ka, kk sb, kk wd, truth
            rw [if_pos (x_may _ rfl)]; exact x_cut
          | true => rw [q3] at hb; cases hb
    · have ln : ∀ (X : XP) (P : W → Sto → Prop), Ok (fLen [.tup ws] (C c)) X P = P (.int (ws.length : Nat)) (C c) := fun X P => lenS rfl X P
      have e3 : (((ws.length : Nat) : Int) = 3) = False := eq_false (by omega)
      exists kk sq, ln, e3, truth
      rw [if_pos (x_may _ rfl)]; exact x_cut
  · have h1 : isTup w = false := by simpa using h1
    rw [h1] at sq
    exists kk sq, truth
    rw [if_pos (x_may _ rfl)]; exact x_cut
end
end LW

set_option Elab.async false
set_option linter.all false
set_option maxRecDepth 100000
set_option maxHeartbeats 4000000
namespace LW
open PySem PySem.W RB L2
local macro_rules | `(tactic| exists $es,*) => `(tactic| simp (config := {decide := false, implicitDefEqProofs := false, maxSteps := 1000000}) only [k_ok, k_exc, k_err, k_ite, k_iteS, k_nx, k_rt, k_loc, k_lit, k_nil, k_cons, k_tup, k_lst, k_bin, k_eB, k_eU, k_call, k_tru, k_not, k_and, k_or, k_if, k_eAnd, k_eOr, k_eNot, k_val, k_chain, k_sNil, k_sSeq, k_sSet, tgName, tgCons, tgNil, Option.bind_some, k_sDrop, k_sRet, k_sRetN, k_sIf, k_sBreak, k_sCont, k_sFor, k_sRaise, k_sTry, k_defn, k_rng1, k_comp,
  v_add, v_sub, v_mul, v_mod, v_div, v_lt, v_le, v_gt, v_ge, v_eq, v_ne, v_neg, v_int, v_min,
  List.map_cons, List.map_nil, List.length_cons, List.length_nil, List.replicate_succ, List.replicate_zero, List.cons_append, List.nil_append, List.append_nil, List.getElem?_cons_succ, List.getElem?_cons_zero, List.set_cons_succ, List.set_cons_zero,
  Nat.reduceAdd, Nat.reduceSub, Nat.zero_add, decide_eq_true_eq, Bool.not_eq_true', decide_eq_false_iff_not, Bool.true_eq_false, Bool.false_eq_true, if_true, if_false, ite_true, ite_false, ite_self, reduceIte, Nat.reduceLeDiff, true_and, and_true, not_true_eq_false, not_false_eq_true, decide_true, decide_false, Bool.not_true, Bool.not_false, $[$es:term],*])
section
variable {c g : List Cell} {X : XP} {P : W → Sto → Prop} {k s : Rat} {n : Nat} {w x y z : W}
theorem bools_map (f : W → Bool) : ∀ ws : List W, bools (ws.map fun w => W.bl (f w)) = some (ws.map f)
  | [] => rfl
  | a :: r => by show (bools (r.map fun w => W.bl (f w))).map (f a :: ·) = _; rw [bools_map f r]; rfl
theorem all_any (f : W → Bool) (ws : List W) (X : XP) (P : W → Sto → Prop) : Ok (fAll [.ref c.length] (C (c ++ .lst (ws.map fun w => W.bl (f w)) :: []))) X P = P (.bl (ws.all f)) (C (c ++ .lst (ws.map fun w => W.bl (f w)) :: [])) := by
  rw [v_all (show RB.getL _ _ = _ from c_seq) (bools_map f ws)]
  congr 2
  rw [List.all_map]; rfl
theorem pure_of {ws : List W} (h : W.pure (.tup ws) = true) : ∀ w ∈ ws, W.pure w = true := by
  have h : W.pures ws = true := by simpa only [W.pure] using h
  induction ws with
  | nil => intro w hw; cases hw
  | cons a r ih =>
    have h2 : (W.pure a && W.pures r) = true := h
    rw [Bool.and_eq_true] at h2
    intro w hw
    rcases List.mem_cons.mp hw with rfl | hw
    · exact h2.1
    · exact ih (by simp only [W.pure]; exact h2.2) h2.2 w hw
theorem x_cutA {A : List Cell} : (C (c ++ A)).cut c.length = C c := by show C ((c ++ A).take c.length) = C c; rw [List.take_left]
def badStakes (n : Nat) : W → Prop
  | .tup ws => ws.length ≠ n ∨ ws.all (wiB 0 1000000000) = false ∨ ∃ l, ws = iW l ∧ l.sum = 0
  | _ => True
theorem stakes_bad (h4 : n ≤ 4) (hx : seqOf (C c) x = some [frW k, frW s, .int (n : Nat)]) (hp : W.pure y = true) (hb : badStakes n y) : F__need_stakes [x, y] (C c) = .exc 0 (.int 2) (C c) := by
  refine run_exc ?_
  unfold F__need_stakes
  have sq := seq_any (c := c) hp
  have i2 : ∀ (X : XP) (P : W → Sto → Prop), Ok (wIx x (.int 2) (C c)) X P = P (.int (n : Nat)) (C c) := fun X P => v_ix hx rfl
  by_cases h1 : isTup y = true
  · obtain ⟨ws, rfl⟩ : ∃ ws, y = .tup ws := by
      cases y with
      | tup ws => exact ⟨ws, rfl⟩
      | _ => cases h1
    rw [h1] at sq
    have ln : ∀ (X : XP) (P : W → Sto → Prop), Ok (fLen [.tup ws] (C c)) X P = P (.int (ws.length : Nat)) (C c) := fun X P => lenS rfl X P
    by_cases hl : ws.length = n
    · have e : (((ws.length : Nat) : Int) = (n : Nat)) = True := eq_true (by omega)
      have vs : ∀ (a b : Option W) (X : XP) (P : Src → Sto → Prop), Ok (vSeq (eLoc 1) [a, some (.tup ws), b] (C c)) X P = P (.fix ws) (C c) := fun a b X P => rfl
      exists kk sq, ln, i2, e, truth, vs
      refine cl_map (c := c) (ws := ws) (fun us i => rfl) (fun w => .bl (wiB 0 1000000000 w)) (by omega) (fun w hw => ?_) ?_
      · refine ⟨_, fun _ => rfl, rfl, fun us => run_eq ?_⟩
        have wi := wi_any (c := c ++ .lst us :: []) (pure_of hp w hw) 0 1000000000
        exists wipeL, kk wi
      · have al := all_any (c := c) (wiB 0 1000000000) ws
        by_cases ha : ws.all (wiB 0 1000000000) = true
        · rcases hb with hb | hb | ⟨l, rfl, h0⟩
          · exact absurd hl hb
          · rw [ha] at hb; cases hb
          · have sm := v_sumN (st := C (c ++ .lst ((iW l).map fun w => W.bl (wiB 0 1000000000 w)) :: [])) (x := .tup (iW l)) (l := l) rfl
            rw [h0] at sm
            have e0 : (((0 : Nat) : Int) = 0) = True := eq_true rfl
            exists al, ha, sm, e0
            rw [if_pos (by rfl)]; exact x_cutA
        · have ha : ws.all (wiB 0 1000000000) = false := by simpa using ha
          exists al, ha
          rw [if_pos (by rfl)]; exact x_cutA
    · have e : (((ws.length : Nat) : Int) = (n : Nat)) = False := eq_false (by omega)
      exists kk sq, ln, i2, e, truth
      rw [if_pos (x_may _ rfl)]; exact x_cut
  · have h1 : isTup y = false := by simpa using h1
    rw [h1] at sq
    exists kk sq, truth
    rw [if_pos (x_may _ rfl)]; exact x_cut
/-- own stakes that are not as told, beside stakes of 1 -/
def badOwn (n : Nat) : W → Prop
  | .tup ws => ws.length ≠ n ∨ ws.all (wiB 0 1) = false
  | _ => True
theorem own_bad {m : Nat} (h4 : m ≤ 4) (hp : W.pure y = true) (hb : badOwn m y) : F__are_own [.tup (iW (List.replicate m 1)), y] (C c) = .ok (.bl false) (C c) := by
  refine run_eq ?_
  unfold F__are_own
  have sq := seq_any (c := c) hp
  have lx : ∀ (X : XP) (P : W → Sto → Prop), Ok (fLen [.tup (iW (List.replicate m 1))] (C c)) X P = P (.int (m : Nat)) (C c) := fun X P => by rw [lenS (ws := iW (List.replicate m 1)) rfl, iW_len, List.length_replicate]
  by_cases h1 : isTup y = true
  · obtain ⟨ws, rfl⟩ : ∃ ws, y = .tup ws := by
      cases y with
      | tup ws => exact ⟨ws, rfl⟩
      | _ => cases h1
    rw [h1] at sq
    have ln : ∀ (X : XP) (P : W → Sto → Prop), Ok (fLen [.tup ws] (C c)) X P = P (.int (ws.length : Nat)) (C c) := fun X P => lenS rfl X P
    by_cases hl : ws.length = m
    · have e : (((ws.length : Nat) : Int) = (m : Nat)) = True := eq_true (by omega)
      have e1 : srcOf (C c) (.tup ws) = some (.fix ws) := rfl
      have e2 : srcOf (C c) (.tup (iW (List.replicate m 1))) = some (.fix (iW (List.replicate m 1))) := rfl
      exists kk sq, ln, lx, e, truth, k_zip, e1, e2
      have zm : List.zipWith pairT ws (iW (List.replicate m 1)) = ws.map fun w => pairT w (.int ((1 : Nat) : Int)) := by
        have : iW (List.replicate m 1) = ws.map fun _ => W.int ((1 : Nat) : Int) := by unfold iW; rw [List.map_replicate, List.map_const', hl]
        rw [this]
        have := zip_map (fun w : W => w) (fun _ => W.int ((1 : Nat) : Int)) ws
        rwa [List.map_id'] at this
      refine cl_map (c := c) (ws := ws.map fun w => pairT w (.int ((1 : Nat) : Int))) (fun us i => ?_) (fun w => match w with | .tup [a, _] => .bl (wiB 0 1 a) | _ => .non) (by rw [List.length_map]; omega) (fun w hw => ?_) ?_
      · rw [zip_at (s := .fix ws) (s' := .fix (iW (List.replicate m 1))) (xs := ws) (ys := iW (List.replicate m 1)) rfl rfl, zm]
      · obtain ⟨a, ha, rfl⟩ := List.mem_map.mp hw
        refine ⟨_, fun _ => rfl, rfl, fun us => run_eq ?_⟩
        have wi := wi_any (c := c ++ .lst us :: []) (pure_of hp a ha) 0 1
        have e11 : (((1 : Nat) : Int)) = 1 := rfl
        exists wipeL, e11, kk wi
        rfl
      · rw [List.map_map]
        have mm : (ws.map ((fun w => match w with | .tup [a, _] => W.bl (wiB 0 1 a) | _ => .non) ∘ fun w => pairT w (.int ((1 : Nat) : Int)))) = ws.map fun w => W.bl (wiB 0 1 w) := rfl
        rw [mm]
        have al := all_any (c := c) (wiB 0 1) ws
        rcases hb with hb | hb
        · exact absurd hl hb
        · exists al, hb
          rw [c_trim rfl]
          exact ⟨rfl, rfl⟩
    · have e : (((ws.length : Nat) : Int) = (m : Nat)) = False := eq_false (by omega)
      exists kk sq, ln, lx, e, truth
      rw [c_trim0 rfl]
      exact ⟨rfl, rfl⟩
  · have h1 : isTup y = false := by simpa using h1
    rw [h1] at sq
    exists kk sq, truth
    rw [c_trim0 rfl]
    exact ⟨rfl, rfl⟩
theorem ispay_no (hp : W.pure w = true) (hb : amB w = false) : F__is_payment [x, w] (C c) = .ok (.bl false) (C c) := by
  refine run_eq ?_
  unfold F__is_payment
  have a := am_any (c := c) hp
  rw [hb] at a
  exists kk a
  rw [c_trim0 rfl]
  exact ⟨rfl, rfl⟩
theorem ispay_half (h : PoolQ k s) (hx : seqOf (C c) x = some [frW k, frW s, .int (n : Nat)]) : F__is_payment [x, frW (mkRat s.num (s.den * 2))] (C c) = .ok (.bl false) (C c) := by
  refine run_eq ?_
  unfold F__is_payment
  have eH : mkRat s.num (s.den * 2) = s * mkRat 1 2 := mk_part s 2
  have h0 : (0 : Rat) ≤ s * mkRat 1 2 := Rat.mul_nonneg (Rat.le_of_lt h.s0) (by decide)
  have bH : Bq 10 (s * mkRat 1 2) := (bd_mul h.bs (bd_mk (k := 2) (by decide) (by decide) (by decide))).mono (by decide)
  rw [eH]
  have i1 : ∀ (X : XP) (P : W → Sto → Prop), Ok (wIx x (.int 1) (C c)) X P = P (frW s) (C c) := fun X P => v_ix hx rfl
  have a := amount_ok (c := c) (s * mkRat 1 2)
  rw [decide_eq_true h0] at a
  have t := times_ok (c := c) (bH.mono (by decide)) ((bd_inv h.bs (by decide)).mono (by decide : 7 ≤ 4000))
  have e2 : s * mkRat 1 2 * s⁻¹ = mkRat 1 2 := by rw [Rat.mul_comm s, Rat.mul_assoc, Rat.mul_inv_cancel s (ne_of_pos h.s0), Rat.mul_one]
  rw [e2] at t
  have e1 : ((((mkRat 1 2).den : Nat) : Int) = 1) = False := eq_false (by decide)
  exists kk a, i1, kk (over_ok (c := c) h.s0), kk t, i1_fr, e1
  rw [c_trim0 rfl]
  exact ⟨rfl, rfl⟩
def isNon : W → Bool
  | .non => true
  | _ => false
/-- rows: f tells which are payments -/
def badRow (n : Nat) (f : W → Bool) : W → Prop
  | .tup ws => ws.length ≠ n ∨ (ws.filter fun w => !isNon w) = [] ∨ (ws.filter fun w => !isNon w).all f = false
  | _ => True
theorem row_bad (h4 : n ≤ 4) (hx : seqOf (C c) x = some [frW k, frW s, .int (n : Nat)]) (hp : W.pure y = true) (f : W → Bool) (hf : ∀ ws, y = .tup ws → ∀ w ∈ ws, isNon w = false → ∀ g, F__is_payment [x, w] (C (c ++ g)) = .ok (.bl (f w)) (C (c ++ g))) (hb : badRow n f y) : F__need_row [x, y] (C c) = .exc 0 (.int 2) (C c) := by
  refine run_exc ?_
  unfold F__need_row
  have sq := seq_any (c := c) hp
  have i2 : ∀ (X : XP) (P : W → Sto → Prop), Ok (wIx x (.int 2) (C c)) X P = P (.int (n : Nat)) (C c) := fun X P => v_ix hx rfl
  by_cases h1 : isTup y = true
  · obtain ⟨ws, rfl⟩ : ∃ ws, y = .tup ws := by
      cases y with
      | tup ws => exact ⟨ws, rfl⟩
      | _ => cases h1
    rw [h1] at sq
    have ln : ∀ (X : XP) (P : W → Sto → Prop), Ok (fLen [.tup ws] (C c)) X P = P (.int (ws.length : Nat)) (C c) := fun X P => lenS rfl X P
    by_cases hl : ws.length = n
    · have e : (((ws.length : Nat) : Int) = (n : Nat)) = True := eq_true (by omega)
      have vs : ∀ (a b d : Option W) (X : XP) (P : Src → Sto → Prop), Ok (vSeq (eLoc 1) [a, some (.tup ws), b, d] (C c)) X P = P (.fix ws) (C c) := fun a b d X P => rfl
      exists kk sq, ln, i2, e, truth, vs
      refine cl_pure (c := c) (ws := ws) (fun us i => rfl) (fun w => !isNon w) (fun w => w) (by omega) (fun w hw => ?_) ?_
      · have hpw := pure_of hp w hw
        refine ⟨_, fun _ => rfl, fun us => run_eq ?_, fun _ => ⟨hpw, fun us => run_eq ?_⟩⟩
        · have v : ∀ (st : Sto) (X : XP) (P : W → Sto → Prop), Ok (wNotN w .non st) X P = P (.bl (!isNon w)) st := fun st X P => by cases w <;> rfl
          exists wipeL, v
        · exists wipeL
      · rw [List.map_id']
        have gl : RB.getL (C (c ++ .lst (ws.filter fun w => !isNon w) :: [])) c.length = some (ws.filter fun w => !isNon w) := by unfold RB.getL; rw [c_get]
        have fl : (ws.filter fun w => !isNon w).length ≤ 4 := Nat.le_trans (List.length_filter_le _ _) (by omega)
        have mem : ∀ w ∈ ws.filter fun w => !isNon w, w ∈ ws ∧ isNon w = false := fun w hw => by
          have := List.mem_filter.mp hw
          exact ⟨this.1, by simpa using this.2⟩
        have hb2 : (ws.filter fun w => !isNon w) = [] ∨ (ws.filter fun w => !isNon w).all f = false := by
          rcases hb with hb | hb
          · exact absurd hl hb
          · exact hb
        generalize (ws.filter fun w => !isNon w) = fs at gl fl mem hb2
        have lf : ∀ (X : XP) (P : W → Sto → Prop), Ok (fLen [.ref c.length] (C (c ++ .lst fs :: []))) X P = P (.int (fs.length : Nat)) (C (c ++ .lst fs :: [])) := fun X P => lenS (x := .ref c.length) gl X P
        by_cases h0 : fs = []
        · have l0 : (((fs.length : Nat) : Int) = 0) = True := eq_true (by rw [h0]; rfl)
          exists lf, l0
          rw [if_pos (by rfl)]; exact x_cutA
        · have l0 : (((fs.length : Nat) : Int) = 0) = False := eq_false (by have := List.length_pos_iff.mpr h0; omega)
          have hb3 : fs.all f = false := by
            rcases hb2 with hb2 | hb2
            · exact absurd hb2 h0
            · exact hb2
          exists lf, l0, k_vSeq
          rw [gl]
          dsimp only
          have push : (C (c ++ .lst fs :: [])).push (.lst []) = C ((c ++ .lst fs :: []) ++ .lst [] :: []) := rfl
          rw [push]
          refine cl_map (c := c ++ .lst fs :: []) (ws := fs) (fun us i => live_at c_get i) (fun w => .bl (f w)) (by omega) (fun w hw => ?_) ?_
          · obtain ⟨m1, m2⟩ := mem w hw
            refine ⟨_, fun _ => rfl, rfl, fun us => run_eq ?_⟩
            have pk := hf ws rfl w m1 m2 (.lst fs :: .lst us :: [])
            have ap : c ++ .lst fs :: .lst us :: [] = (c ++ .lst fs :: []) ++ .lst us :: [] := by simp
            rw [ap] at pk
            exists wipeL, kk pk
          · have al := all_any (c := c ++ .lst fs :: []) f fs
            exists al, hb3
            rw [if_pos (by rfl), List.append_assoc]; exact x_cutA
    · have e : (((ws.length : Nat) : Int) = (n : Nat)) = False := eq_false (by omega)
      exists kk sq, ln, i2, e, truth
      rw [if_pos (x_may _ rfl)]; exact x_cut
  · have h1 : isTup y = false := by simpa using h1
    rw [h1] at sq
    exists kk sq, truth
    rw [if_pos (x_may _ rfl)]; exact x_cut
end
end LW

set_option Elab.async false
set_option linter.all false
set_option maxRecDepth 100000
set_option maxHeartbeats 4000000
namespace LW
open PySem PySem.W RB L2
local macro_rules | `(tactic| exists $es,*) => `(tactic| simp (config := {decide := false, implicitDefEqProofs := false, maxSteps := 1000000}) only [k_ok, k_exc, k_err, k_ite, k_iteS, k_nx, k_rt, k_loc, k_lit, k_nil, k_cons, k_tup, k_lst, k_bin, k_eB, k_eU, k_call, k_tru, k_not, k_and, k_or, k_if, k_eAnd, k_eOr, k_eNot, k_val, k_chain, k_sNil, k_sSeq, k_sSet, tgName, tgCons, tgNil, Option.bind_some, k_sDrop, k_sRet, k_sRetN, k_sIf, k_sBreak, k_sCont, k_sFor, k_sRaise, k_sTry, k_defn, k_rng1, k_comp,
  v_add, v_sub, v_mul, v_mod, v_div, v_lt, v_le, v_gt, v_ge, v_eq, v_ne, v_neg, v_int, v_min,
  List.map_cons, List.map_nil, List.length_cons, List.length_nil, List.replicate_succ, List.replicate_zero, List.cons_append, List.nil_append, List.append_nil, List.getElem?_cons_succ, List.getElem?_cons_zero, List.set_cons_succ, List.set_cons_zero,
  Nat.reduceAdd, Nat.reduceSub, Nat.zero_add, decide_eq_true_eq, Bool.not_eq_true', decide_eq_false_iff_not, Bool.true_eq_false, Bool.false_eq_true, if_true, if_false, ite_true, ite_false, ite_self, reduceIte, Nat.reduceLeDiff, true_and, and_true, not_true_eq_false, not_false_eq_true, decide_true, decide_false, Bool.not_true, Bool.not_false, $[$es:term],*])
section
variable {c g : List Cell} {X : XP} {P : W → Sto → Prop} {k s : Rat} {n : Nat} {w x y z : W} {i : Int}
theorem pay_x1 (h : F__need_pool [w] (C c) = .exc 0 (.int i) (C c)) : F_payments [w, y] (C c) = .exc 0 (.int i) (C c) := by
  refine run_exc ?_
  unfold F_payments
  exists kx h
  rw [if_pos (x_may _ rfl)]; exact x_cut
theorem pay_x2 (h : F__need_pool [w] (C c) = .ok .non (C c)) (h2 : F__need_stakes [w, y] (C c) = .exc 0 (.int i) (C c)) : F_payments [w, y] (C c) = .exc 0 (.int i) (C c) := by
  refine run_exc ?_
  unfold F_payments
  exists kk h, kx h2
  rw [if_pos (x_may _ rfl)]; exact x_cut
theorem spread_x1 (h : F__need_pool [w] (C c) = .exc 0 (.int i) (C c)) : F_spread [w, y] (C c) = .exc 0 (.int i) (C c) := by
  refine run_exc ?_
  unfold F_spread
  exists kx h
  rw [if_pos (x_may _ rfl)]; exact x_cut
theorem spread_x2 (h : F__need_pool [w] (C c) = .ok .non (C c)) (h2 : F__need_row [w, y] (C c) = .exc 0 (.int i) (C c)) : F_spread [w, y] (C c) = .exc 0 (.int i) (C c) := by
  refine run_exc ?_
  unfold F_spread
  exists kk h, kx h2
  rw [if_pos (x_may _ rfl)]; exact x_cut
theorem comes_x (h : F_spread [w, y] (C c) = .exc 0 (.int i) (C c)) : F_comes [w, y] (C c) = .exc 0 (.int i) (C c) := by
  refine run_exc ?_
  unfold F_comes
  exists kx h
  rw [if_pos (x_may _ rfl)]; exact x_cut
theorem least_x (h : F_comes [w, y] (C c) = .exc 0 (.int i) (C c)) : F_least_stakes [w, y] (C c) = .exc 0 (.int i) (C c) := by
  refine run_exc ?_
  unfold F_least_stakes
  exists kx h
  rw [if_pos (x_may _ rfl)]; exact x_cut
theorem gain_x1 (h : F__need_pool [w] (C c) = .exc 0 (.int i) (C c)) : F_pool_gain [w, y, z] (C c) = .exc 0 (.int i) (C c) := by
  refine run_exc ?_
  unfold F_pool_gain
  exists kx h
  rw [if_pos (x_may _ rfl)]; exact x_cut
theorem gain_x2 (h : F__need_pool [w] (C c) = .ok .non (C c)) (h2 : F__need_stakes [w, y] (C c) = .exc 0 (.int i) (C c)) : F_pool_gain [w, y, z] (C c) = .exc 0 (.int i) (C c) := by
  refine run_exc ?_
  unfold F_pool_gain
  exists kk h, kx h2
  rw [if_pos (x_may _ rfl)]; exact x_cut
theorem gain_x3 (h : F__need_pool [w] (C c) = .ok .non (C c)) (h2 : F__need_stakes [w, y] (C c) = .ok .non (C c)) (h3 : F__are_own [y, z] (C c) = .ok (.bl false) (C c)) : F_pool_gain [w, y, z] (C c) = .exc 0 (.int 3) (C c) := by
  refine run_exc ?_
  unfold F_pool_gain
  exists kk h, kk h2, kk h3, truth
  rw [if_pos (x_may _ rfl)]; exact x_cut
def valW (i : Int) : W := .tup [.str "value", .int i]
/-- what is asked, by its number -/
def call5 : Nat → List W → Sto → Res W
  | 0 => fun ws => F_payments [ws.getD 0 .non, ws.getD 1 .non]
  | 1 => fun ws => F_comes [ws.getD 0 .non, ws.getD 1 .non]
  | 2 => fun ws => F_least_stakes [ws.getD 0 .non, ws.getD 1 .non]
  | 3 => fun ws => F_spread [ws.getD 0 .non, ws.getD 1 .non]
  | _ => fun ws => F_pool_gain [ws.getD 0 .non, ws.getD 1 .non, ws.getD 2 .non]
theorem fault_x {kind : Nat} (hk : kind < 5) (h : call5 kind [w, y, z] (C c) = .exc 0 (.int i) (C c)) : F__law_pool_fault [.int (kind : Nat), w, y, z] (C c) = .ok (valW i) (C c) := by
  have cb : cat_BadValue 0 = some true := rfl
  have tg : ∀ (l : Lo) (D : Po4), OkS (tryGo [(cat_BadValue, fun p => .tup [.str "value", p]), (cat_TooMany, fun p => .tup [.str "many", p])] 0 (.int i) l (C c)) D = D.rt (valW i) (C c) := fun l D => rfl
  have : kind = 0 ∨ kind = 1 ∨ kind = 2 ∨ kind = 3 ∨ kind = 4 := by omega
  refine run_eq ?_
  unfold F__law_pool_fault
  rcases this with rfl | rfl | rfl | rfl | rfl
  · have h : F_payments [w, y] (C c) = .exc 0 (.int i) (C c) := h
    have e0 : (((0 : Nat) : Int) = 0) = True := eq_true rfl
    exists k_tryM, e0, kx h, tg
    rw [if_pos (by decide), c_trim0 rfl]; exact ⟨rfl, rfl⟩
  · have h : F_comes [w, y] (C c) = .exc 0 (.int i) (C c) := h
    have e0 : (((1 : Nat) : Int) = 0) = False := eq_false (by decide)
    have e1 : (((1 : Nat) : Int) = 1) = True := eq_true rfl
    exists k_tryM, e0, e1, kx h, tg
    rw [if_pos (by decide), c_trim0 rfl]; exact ⟨rfl, rfl⟩
  · have h : F_least_stakes [w, y] (C c) = .exc 0 (.int i) (C c) := h
    have e0 : (((2 : Nat) : Int) = 0) = False := eq_false (by decide)
    have e1 : (((2 : Nat) : Int) = 1) = False := eq_false (by decide)
    have e2 : (((2 : Nat) : Int) = 2) = True := eq_true rfl
    exists k_tryM, e0, e1, e2, kx h, tg
    rw [if_pos (by decide), c_trim0 rfl]; exact ⟨rfl, rfl⟩
  · have h : F_spread [w, y] (C c) = .exc 0 (.int i) (C c) := h
    have e0 : (((3 : Nat) : Int) = 0) = False := eq_false (by decide)
    have e1 : (((3 : Nat) : Int) = 1) = False := eq_false (by decide)
    have e2 : (((3 : Nat) : Int) = 2) = False := eq_false (by decide)
    have e3 : (((3 : Nat) : Int) = 3) = True := eq_true rfl
    exists k_tryM, e0, e1, e2, e3, kx h, tg
    rw [if_pos (by decide), c_trim0 rfl]; exact ⟨rfl, rfl⟩
  · have h : F_pool_gain [w, y, z] (C c) = .exc 0 (.int i) (C c) := h
    have e0 : (((4 : Nat) : Int) = 0) = False := eq_false (by decide)
    have e1 : (((4 : Nat) : Int) = 1) = False := eq_false (by decide)
    have e2 : (((4 : Nat) : Int) = 2) = False := eq_false (by decide)
    have e3 : (((4 : Nat) : Int) = 3) = False := eq_false (by decide)
    exists k_tryM, e0, e1, e2, e3, kx h, tg
    rw [if_pos (by decide), c_trim0 rfl]; exact ⟨rfl, rfl⟩
theorem fault_0 {v : W} (h : F_payments [w, y] (C c) = .ok v (C c)) : F__law_pool_fault [.int 0, w, y, z] (C c) = .ok .non (C c) := by
  refine run_eq ?_
  unfold F__law_pool_fault
  exists k_tryM, kk h
  rw [c_trim0 rfl]; exact ⟨rfl, rfl⟩
theorem fault_1 {v : W} (h : F_comes [w, y] (C c) = .ok v (C c)) : F__law_pool_fault [.int 1, w, y, z] (C c) = .ok .non (C c) := by
  have e0 : ((1 : Int) = 0) = False := eq_false (by decide)
  refine run_eq ?_
  unfold F__law_pool_fault
  exists k_tryM, e0, kk h
  rw [c_trim0 rfl]; exact ⟨rfl, rfl⟩
theorem fault_4 {v : W} (h : F_pool_gain [w, y, z] (C c) = .ok v (C c)) : F__law_pool_fault [.int 4, w, y, z] (C c) = .ok .non (C c) := by
  have e0 : ((4 : Int) = 0) = False := eq_false (by decide)
  have e1 : ((4 : Int) = 1) = False := eq_false (by decide)
  have e2 : ((4 : Int) = 2) = False := eq_false (by decide)
  have e3 : ((4 : Int) = 3) = False := eq_false (by decide)
  refine run_eq ?_
  unfold F__law_pool_fault
  exists k_tryM, e0, e1, e2, e3, kk h
  rw [c_trim0 rfl]; exact ⟨rfl, rfl⟩
theorem v_addL {a b : Nat} {u v : List W} (h1 : c[a]? = some (.lst u)) (h2 : c[b]? = some (.lst v)) (h3 : u.length + v.length ≤ 1000000) : Ok (wAdd (.ref a) (.ref b) (C c)) X P = P (.ref c.length) (C (c ++ .lst (u ++ v) :: [])) := by
  unfold wAdd
  have h1 : (C c).c[a]? = some (.lst u) := h1
  have h2 : (C c).c[b]? = some (.lst v) := h2
  simp only [h1, h2, h3, if_true]
  rfl
theorem ne_val (i j : Int) (st : Sto) (X : XP) (P : W → Sto → Prop) : Ok (wNe (valW i) (.tup [.str "value", .int j]) st) X P = P (.bl (!decide (i = j))) st := by
  have d1 : ∀ i, datOf st (.tup [.str "value", .int i]) = some (.tuple [.str "value", .int i]) := fun i => by
    show (W.dats 8 [.str "value", .int i]).map PyData.tuple = _
    have e : PyData.strOk "value" = true := by decide +kernel
    have e2 : W.dats 8 [.str "value", .int i] = some [.str "value", .int i] := by
      show (match W.dat 8 (.str "value"), W.dats 8 [.int i] with | some d, some ds => some (d :: ds) | _, _ => none) = _
      have e3 : W.dat 8 (.str "value") = some (.str "value") := by show (if _ then _ else _) = _; rw [if_pos e]
      rw [e3]; rfl
    rw [e2]; rfl
  unfold wNe valW
  rw [d1 i, d1 j]
  show P (.bl (!PyData.eqv _ _)) st = _
  congr 3
  simp [PyData.eqv, PyData.eqvAll]
  by_cases h : i = j <;> simp [h]
end
end LW

set_option Elab.async false
set_option linter.all false
set_option maxRecDepth 100000
set_option maxHeartbeats 4000000
namespace LW
open PySem PySem.W RB L2
local macro_rules | `(tactic| exists $es,*) => `(tactic| simp (config := {decide := false, implicitDefEqProofs := false, maxSteps := 1000000}) only [k_ok, k_exc, k_err, k_ite, k_iteS, k_nx, k_rt, k_loc, k_lit, k_nil, k_cons, k_tup, k_lst, k_bin, k_eB, k_eU, k_call, k_tru, k_not, k_and, k_or, k_if, k_eAnd, k_eOr, k_eNot, k_val, k_chain, k_sNil, k_sSeq, k_sSet, tgName, tgCons, tgNil, Option.bind_some, k_sDrop, k_sRet, k_sRetN, k_sIf, k_sBreak, k_sCont, k_sFor, k_sRaise, k_sTry, k_defn, k_rng1, k_comp,
  v_add, v_sub, v_mul, v_mod, v_div, v_lt, v_le, v_gt, v_ge, v_eq, v_ne, v_neg, v_int, v_min,
  List.map_cons, List.map_nil, List.length_cons, List.length_nil, List.replicate_succ, List.replicate_zero, List.cons_append, List.nil_append, List.append_nil, List.getElem?_cons_succ, List.getElem?_cons_zero, List.set_cons_succ, List.set_cons_zero,
  Nat.reduceAdd, Nat.reduceSub, Nat.zero_add, decide_eq_true_eq, Bool.not_eq_true', decide_eq_false_iff_not, Bool.true_eq_false, Bool.false_eq_true, if_true, if_false, ite_true, ite_false, ite_self, reduceIte, Nat.reduceLeDiff, true_and, and_true, not_true_eq_false, not_false_eq_true, decide_true, decide_false, Bool.not_true, Bool.not_false, $[$es:term],*])
section
variable {c g : List Cell} {X : XP} {P : W → Sto → Prop} {k s : Rat} {n : Nat} {w x y z : W} {row : List (Option Rat)}
/-- the bounds of a runner's stake, if so many are staked in all -/
def limI (k s : Rat) (m : Nat) : Option Rat → Int × Int
  | none => (0, 0)
  | some D => (loI k s D m, hiI k D m)
def prW (p : Int × Int) : W := .tup [.int p.1, .int p.2]
theorem div_lt {q : Rat} (h : q.den < 2 ^ 8000) : divOk ((q.den : Nat) : Int) = true := div_bd q.den_pos h
theorem nat_bd {m : Nat} (h : m ≤ 1000000) : ((m : Nat) : Int).natAbs < 2 ^ 4000 := by
  rw [Int.natAbs_natCast]; exact Nat.lt_of_lt_of_le (by omega : m < 2 ^ 20) (Nat.pow_le_pow_right (by decide) (by decide))
theorem limits_ok (h : PoolQ k s) {o : Option Rat} (ho : ∀ D, o = some D → PayQ s D) {m : Nat} (hm : m ≤ 1000000) : F__limits [boundW k s o, .int (m : Nat)] (C c) = .ok (prW (limI k s m o)) (C c) := by
  refine run_eq ?_
  unfold F__limits
  cases o with
  | none =>
    have v : ∀ (st : Sto) (X : XP) (P : W → Sto → Prop), Ok (wIsN (boundW k s none) .non st) X P = P (.bl true) st := fun st X P => rfl
    exists v, (by decide : (2 : Nat) ≤ 1000)
    rw [c_trim0 rfl]; exact ⟨rfl, rfl⟩
  | some D =>
    have hD := ho D rfl
    have v : ∀ (st : Sto) (X : XP) (P : W → Sto → Prop), Ok (wIsN (boundW k s (some D)) .non st) X P = P (.bl false) st := fun st X P => rfl
    have t2 : ∀ (t : Tgs) (l : Lo) (st : Sto), tgTup 2 t (boundW k s (some D)) l st = t [frW (lowQ k s D), frW (highQ k D)] l st := fun t l st => rfl
    have bl := low_bq h hD
    have bh := high_bq h hD
    have m1 := mul_bd (bl.mono (by decide)).1 (nat_bd hm)
    have m2 := mul_bd (bh.mono (by decide)).1 (nat_bd hm)
    have d1 := div_lt (Nat.lt_of_lt_of_le bl.2 (Nat.pow_le_pow_right (by decide) (by decide)))
    have d2 := div_lt (Nat.lt_of_lt_of_le bh.2 (Nat.pow_le_pow_right (by decide) (by decide)))
    exists v, t2, i0_fr, i1_fr, m1, m2, d1, d2, (by decide : (2 : Nat) ≤ 1000)
    rw [c_trim0 rfl]
    refine ⟨?_, rfl⟩
    show _ = W.tup [.int (loI k s D m), .int (hiI k D m)]
    unfold loI hiI
    rw [floor_numden, floor_numden]
theorem any_any (f : W → Bool) (ws : List W) (X : XP) (P : W → Sto → Prop) : Ok (fAny [.ref c.length] (C (c ++ .lst (ws.map fun w => W.bl (f w)) :: []))) X P = P (.bl (ws.any f)) (C (c ++ .lst (ws.map fun w => W.bl (f w)) :: [])) := by
  have h : RB.getL (C (c ++ .lst (ws.map fun w => W.bl (f w)) :: [])) c.length = some (ws.map fun w => W.bl (f w)) := by unfold RB.getL; rw [c_get]
  unfold fAny
  simp only [h, Option.bind_some, bools_map]
  show P (.bl _) _ = _
  congr 2
  rw [List.any_map]; rfl
theorem intsI : ∀ ks : List Int, intsOf (ks.map .int) = some ks
  | [] => rfl
  | a :: r => by show (intsOf (r.map .int)).map (a :: ·) = _; rw [intsI r]; rfl
theorem v_sumI {st : Sto} {x : W} {l : List Int} (h : seqOf st x = some (l.map .int)) (X : XP) (P : W → Sto → Prop) : Ok (fSumS [x] st) X P = P (.int l.sum) st := by
  unfold fSumS
  dsimp only
  rw [h, Option.bind_some, intsI]; rfl
def pA : W → W
  | .tup [a, _] => a
  | _ => .non
def pB : W → W
  | .tup [_, b] => b
  | _ => .non
def hiLtLo : W → Bool
  | .tup [.int a, .int b] => decide (b < a)
  | _ => false
theorem mapA (ls : List (Int × Int)) : (ls.map prW).map pA = (ls.map Prod.fst).map .int := by rw [List.map_map, List.map_map]; rfl
theorem mapB (ls : List (Int × Int)) : (ls.map prW).map pB = (ls.map Prod.snd).map .int := by rw [List.map_map, List.map_map]; rfl
theorem can_run {ls : List (Int × Int)} (hx : seqOf (C c) x = some (ls.map prW)) (hl : ls.length ≤ 4) (m : Int) : F__can_come_to [x, .int m] (C c) = .ok (.bl (canB ls m)) (C c) := by
  refine run_eq ?_
  unfold F__can_come_to
  obtain ⟨sr, ⟨sat, satx⟩, vs⟩ := vseqX (c := c) (i := 0) (l := [some x, some (.int m), none, none, none]) hx rfl
  exists vs
  refine cl_map (c := c) (ws := ls.map prW) (fun us i => satx _ i) (fun w => .bl (hiLtLo w)) (by rw [List.length_map]; omega) (fun w hw => ?_) ?_
  · obtain ⟨p, _, rfl⟩ := List.mem_map.mp hw
    refine ⟨_, fun _ => rfl, rfl, fun us => run_eq ?_⟩
    exists wipeL
    rfl
  · have aa := any_any (c := c) hiLtLo (ls.map prW)
    have ea : (ls.map prW).any hiLtLo = ls.any fun p => decide (p.2 < p.1) := by rw [List.any_map]; rfl
    rw [ea] at aa
    unfold canB
    cases hb : ls.any fun p => decide (p.2 < p.1) with
    | true =>
      rw [hb] at aa
      exists aa, truth
      rw [c_trim rfl]
      exact ⟨rfl, rfl⟩
    | false =>
      rw [hb] at aa
      generalize hc1 : c ++ Cell.lst ((ls.map prW).map fun w => W.bl (hiLtLo w)) :: [] = c1 at aa
      have hx1 : seqOf (C c1) x = some (ls.map prW) := by rw [← hc1]; exact seq_app hx _
      obtain ⟨sr1, ⟨sat1, satx1⟩, vs1⟩ := vseqX (c := c1) (i := 0) (l := [some x, some (.int m), none, none, none]) hx1 rfl
      have push1 : (C c1).push (.lst []) = C (c1 ++ .lst [] :: []) := rfl
      exists aa, truth, vs1, push1
      refine cl_map (c := c1) (ws := ls.map prW) (fun us i => satx1 _ i) pA (by rw [List.length_map]; omega) (fun w hw => ?_) ?_
      · obtain ⟨p, _, rfl⟩ := List.mem_map.mp hw
        refine ⟨_, fun _ => rfl, rfl, fun us => run_eq ?_⟩
        exists wipeL
        rfl
      · rw [mapA]
        have s1 := v_sumI (st := C (c1 ++ .lst ((ls.map Prod.fst).map .int) :: [])) (x := .ref c1.length) (l := ls.map Prod.fst) c_seq
        generalize hc2 : c1 ++ Cell.lst ((ls.map Prod.fst).map .int) :: [] = c2 at s1
        have hx2 : seqOf (C c2) x = some (ls.map prW) := by rw [← hc2]; exact seq_app hx1 _
        obtain ⟨sr2, ⟨sat2, satx2⟩, vs2⟩ := vseqX (c := c2) (i := 0) (l := [some x, some (.int m), none, none, none]) hx2 rfl
        have push2 : (C c2).push (.lst []) = C (c2 ++ .lst [] :: []) := rfl
        have cl2 : ∀ A B D : List Cell, c ++ A = c → True := fun _ _ _ _ => trivial
        by_cases hlo : (ls.map Prod.fst).sum ≤ m
        · exists s1, hlo, vs2, push2
          refine cl_map (c := c2) (ws := ls.map prW) (fun us i => satx2 _ i) pB (by rw [List.length_map]; omega) (fun w hw => ?_) ?_
          · obtain ⟨p, _, rfl⟩ := List.mem_map.mp hw
            refine ⟨_, fun _ => rfl, rfl, fun us => run_eq ?_⟩
            exists wipeL
            rfl
          · rw [mapB]
            have s2 := v_sumI (st := C (c2 ++ .lst ((ls.map Prod.snd).map .int) :: [])) (x := .ref c2.length) (l := ls.map Prod.snd) c_seq
            exists s2
            rw [← hc2, ← hc1]
            simp only [List.append_assoc]
            rw [c_trim rfl]
            refine ⟨?_, rfl⟩
            unfold sumLo sumHi
            rw [decide_eq_true hlo]; rfl
        · exists s1, hlo
          rw [← hc2, ← hc1]
          simp only [List.append_assoc]
          rw [c_trim rfl]
          refine ⟨?_, rfl⟩
          unfold sumLo
          rw [decide_eq_false hlo]; rfl
theorem firstI_pure (l : List Int) : W.pure (.tup (l.map .int)) = true := by simp only [W.pure]; exact ints_pure l
theorem app_int {us : List Int} {v : Int} (hl : us.length < 1000000) : fAppend (.ref c.length) [.int v] (C (c ++ .lst (us.map .int) :: g)) = .ok .non (C (c ++ .lst ((us ++ [v]).map .int) :: g)) := by
  rw [app_st (v := .int v) rfl (by rw [List.length_map]; exact hl), List.map_append]; rfl
theorem first_run {ls : List (Int × Int)} (hx : seqOf (C c) x = some (ls.map prW)) (hl : ls.length ≤ 4) (m : Int) : F__first_stakes [x, .int m] (C c) = .ok (.tup ((firstI ls m).map .int)) (C c) := by
  refine run_eq ?_
  unfold F__first_stakes
  have push0 : (C c).push (.lst []) = C (c ++ .lst [] :: []) := rfl
  generalize hc1 : c ++ Cell.lst [] :: [] = c1 at push0
  have hx1 : seqOf (C c1) x = some (ls.map prW) := by rw [← hc1]; exact seq_app hx _
  obtain ⟨sr1, ⟨sat1, satx1⟩, vs1⟩ := vseqX (c := c1) (i := 0) (l := [some x, some (.int m), some (.ref c.length), some (.int m), none, none, none, none, none]) hx1 rfl
  have push1 : (C c1).push (.lst []) = C (c1 ++ .lst [] :: []) := rfl
  exists push0, (by decide : (0 : Nat) ≤ 1000), vs1, push1
  refine cl_map (c := c1) (ws := ls.map prW) (fun us i => satx1 _ i) pB (by rw [List.length_map]; omega) (fun w hw => ?_) ?_
  · obtain ⟨p, _, rfl⟩ := List.mem_map.mp hw
    refine ⟨_, fun _ => rfl, rfl, fun us => run_eq ?_⟩
    exists wipeL
    rfl
  · rw [mapB]
    have s2 := v_sumI (st := C (c1 ++ .lst ((ls.map Prod.snd).map .int) :: [])) (x := .ref c1.length) (l := ls.map Prod.snd) c_seq
    have ec : c1 ++ Cell.lst ((ls.map Prod.snd).map .int) :: [] = c ++ Cell.lst (([] : List Int).map .int) :: [Cell.lst ((ls.map Prod.snd).map .int)] := by rw [← hc1]; simp
    rw [ec] at s2 ⊢
    generalize hG : [Cell.lst ((ls.map Prod.snd).map .int)] = G at s2 ⊢
    have hxG : ∀ us : List W, ∃ sr : Src, (∀ j (vs : List W), sr.at (C (c ++ .lst vs :: G)) j = some (ls.map prW)[j]?) ∧ ∀ (l3 l4 l5 l6 l7 l8 : Option W) (X : XP) (P : Src → Sto → Prop), Ok (vSeq (eLoc 0) [some x, some (.int m), some (.ref c.length), l3, l4, l5, l6, l7, l8] (C (c ++ .lst us :: G))) X P = P sr (C (c ++ .lst us :: G)) := fun us => by
      rcases seqOf_get hx with rfl | ⟨q, rfl, h2⟩
      · exact ⟨.fix (ls.map prW), fun _ _ => rfl, fun _ _ _ _ _ _ X P => rfl⟩
      · have h3 : ∀ vs : List W, RB.getL (C (c ++ .lst vs :: G)) q = some (ls.map prW) := fun vs => seq_app (x := .ref q) hx _
        refine ⟨.live q, fun j vs => ?_, fun _ _ _ _ _ _ X P => ?_⟩
        · show (RB.getL _ q).map _ = _
          rw [h3]; rfl
        · rw [k_vSeq, k_loc]
          dsimp only [List.getElem?_cons_zero]
          rw [h3]
    obtain ⟨sr2, sat2, vs2⟩ := hxG []
    have e0 : (([] : List Int).map W.int) = [] := rfl
    rw [e0] at s2 ⊢
    exists s2, vs2
    refine loop_fix (ls.map prW) (fun i l st => ∃ (us : List Int) (left : Int) (a b d e : Option W), l = [some x, some (.int m), some (.ref c.length), some (.int left), some (.int (sumHi (ls.drop i))), a, b, d, e] ∧ st = C (c ++ .lst (us.map .int) :: G) ∧ us.length = i ∧ us ++ firstI (ls.drop i) left = firstI ls m) (fun i l st ⟨us, _, _, _, _, _, _, h, _⟩ => by rw [h]; exact sat2 i _) ?_ ?_ 1000000 0 _ _ (by rw [List.length_map]; omega) (Nat.zero_le _) ⟨[], m, none, none, none, none, rfl, rfl, rfl, rfl⟩
    · rintro i w l st hw ⟨us, left, a, b, d, e, rfl, rfl, hu, hf⟩
      rw [List.getElem?_map] at hw
      cases ep : ls[i]? with
      | none => rw [ep] at hw; cases hw
      | some p =>
        rw [ep] at hw
        cases hw
        have hi := (List.getElem?_eq_some_iff.mp ep).1
        have dr : ls.drop i = p :: ls.drop (i + 1) := by
          rw [List.drop_eq_getElem_cons hi]
          congr 1
          rw [List.getElem?_eq_getElem hi] at ep; cases ep; rfl
        refine ⟨[some x, some (.int m), some (.ref c.length), some (.int left), some (.int (sumHi (ls.drop i))), some (.int p.1), some (.int p.2), d, e], rfl, ?_⟩
        have hs : sumHi (ls.drop i) - p.2 = sumHi (ls.drop (i + 1)) := by rw [dr]; unfold sumHi; simp only [List.map_cons, List.sum_cons]; omega
        have fe : firstI (p :: ls.drop (i + 1)) left = (if left - sumHi (ls.drop (i + 1)) > p.1 then left - sumHi (ls.drop (i + 1)) else p.1) :: firstI (ls.drop (i + 1)) (left - (if left - sumHi (ls.drop (i + 1)) > p.1 then left - sumHi (ls.drop (i + 1)) else p.1)) := rfl
        rw [dr, fe] at hf
        have mx : ∀ (u v : Int) (st : Sto) (X : XP) (P : W → Sto → Prop), Ok (fMax2 [.int u, .int v] st) X P = P (.int (if v > u then v else u)) st := fun u v st X P => rfl
        have ka1 : ∀ (l3 l5 l6 l7 l8 : Option W) (v : Int) (e : Ev) (st : Sto) (D : Po4), OkS (sAug 4 (fun a b => a - b) e [some x, some (.int m), some (.ref c.length), l3, some (.int v), l5, l6, l7, l8] st) D = Ok (e [some x, some (.int m), some (.ref c.length), l3, some (.int v), l5, l6, l7, l8] st) (fun c' p st => D.ex c' p [some x, some (.int m), some (.ref c.length), l3, some (.int v), l5, l6, l7, l8] st) fun w st1 => match w with | .int y => D.nx [some x, some (.int m), some (.ref c.length), l3, some (.int (v - y)), l5, l6, l7, l8] st1 | _ => False := fun l3 l5 l6 l7 l8 v e st D => k_aug rfl
        have ka2 : ∀ (l4 l5 l6 l7 l8 : Option W) (v : Int) (e : Ev) (st : Sto) (D : Po4), OkS (sAug 3 (fun a b => a - b) e [some x, some (.int m), some (.ref c.length), some (.int v), l4, l5, l6, l7, l8] st) D = Ok (e [some x, some (.int m), some (.ref c.length), some (.int v), l4, l5, l6, l7, l8] st) (fun c' p st => D.ex c' p [some x, some (.int m), some (.ref c.length), some (.int v), l4, l5, l6, l7, l8] st) fun w st1 => match w with | .int y => D.nx [some x, some (.int m), some (.ref c.length), some (.int (v - y)), l4, l5, l6, l7, l8] st1 | _ => False := fun l4 l5 l6 l7 l8 v e st D => k_aug rfl
        have ap := fun v => app_int (c := c) (g := G) (us := us) (v := v) (by omega)
        exists ka1, hs, mx, ka2, k_eMt, isL_st (c := c) (g := G) (us := us.map .int), kk (ap _)
        refine ⟨us ++ [if left - sumHi (ls.drop (i + 1)) > p.1 then left - sumHi (ls.drop (i + 1)) else p.1], _, _, _, _, _, rfl, rfl, by rw [List.length_append, hu]; rfl, ?_⟩
        rw [List.append_assoc]
        exact hf
    · rintro l st ⟨us, left, a, b, d, e, rfl, rfl, hu, hf⟩
      rw [List.length_map, List.drop_length] at hf
      have hf : us = firstI ls m := by rw [← hf]; exact (List.append_nil us).symm
      exists k_loc
      rw [v_tup c_seq, hf, c_trim (firstI_pure _)]
      exact ⟨rfl, rfl⟩
end
end LW

set_option Elab.async false
set_option linter.all false
set_option maxRecDepth 100000
set_option maxHeartbeats 4000000
namespace LW
open PySem PySem.W RB L2
local macro_rules | `(tactic| exists $es,*) => `(tactic| simp (config := {decide := false, implicitDefEqProofs := false, maxSteps := 1000000}) only [k_ok, k_exc, k_err, k_ite, k_iteS, k_nx, k_rt, k_loc, k_lit, k_nil, k_cons, k_tup, k_lst, k_bin, k_eB, k_eU, k_call, k_tru, k_not, k_and, k_or, k_if, k_eAnd, k_eOr, k_eNot, k_val, k_chain, k_sNil, k_sSeq, k_sSet, tgName, tgCons, tgNil, Option.bind_some, k_sDrop, k_sRet, k_sRetN, k_sIf, k_sBreak, k_sCont, k_sFor, k_sRaise, k_sTry, k_defn, k_rng1, k_comp,
  v_add, v_sub, v_mul, v_mod, v_div, v_lt, v_le, v_gt, v_ge, v_eq, v_ne, v_neg, v_int, v_min,
  List.map_cons, List.map_nil, List.length_cons, List.length_nil, List.replicate_succ, List.replicate_zero, List.cons_append, List.nil_append, List.append_nil, List.getElem?_cons_succ, List.getElem?_cons_zero, List.set_cons_succ, List.set_cons_zero,
  Nat.reduceAdd, Nat.reduceSub, Nat.zero_add, decide_eq_true_eq, Bool.not_eq_true', decide_eq_false_iff_not, Bool.true_eq_false, Bool.false_eq_true, if_true, if_false, ite_true, ite_false, ite_self, reduceIte, Nat.reduceLeDiff, true_and, and_true, not_true_eq_false, not_false_eq_true, decide_true, decide_false, Bool.not_true, Bool.not_false, $[$es:term],*])
section
variable {c g : List Cell} {X : XP} {P : W → Sto → Prop} {k s : Rat} {n : Nat} {w x y z : W} {row : List (Option Rat)}
theorem k_rng2 {as : Evs} {l : Lo} {st : Sto} {P : Src → Sto → Prop} : Ok (vRng2 as l st) X P = Ok (as l st) X fun ws st1 => match ws with | [.int i, .int j] => (if (-1000000 ≤ i ∧ i ≤ 1000000) ∧ -1000000 ≤ j ∧ j ≤ 1000000 then P (.fix (upFrom i (j - i).toNat)) st1 else False) | _ => False := by
  unfold vRng2; rw [k_bind]; congr 1; funext w st1
  rcases w with _ | ⟨w, _ | ⟨v, _ | ⟨_, _⟩⟩⟩
  · rfl
  · cases w <;> rfl
  · cases w <;> cases v <;> first | rfl | exact k_ite.trans rfl
  · cases w <;> cases v <;> rfl
theorem up_getA {lo : Int} {n i : Nat} {w : W} (h : (upFrom lo n)[i]? = some w) : i < n ∧ w = .int (lo + (i : Nat)) := by
  rw [upFrom_get] at h
  split at h
  · rename_i q; cases h; exact ⟨q, rfl⟩
  · cases h
def limsOf (k s : Rat) (row : List (Option Rat)) (m : Nat) : List (Int × Int) := row.map (limI k s m)
theorem lims_len (m : Nat) : (limsOf k s row m).length = row.length := List.length_map ..
/-- what stands behind the body of the loop -/
theorem least_body (h : PoolQ k s) (hl : row.length ≤ 4) (hr : ∀ D, some D ∈ row → PayQ s D) {b : Nat} (hb : c[b]? = some (.lst (row.map (boundW k s)))) {m : Nat} (hm : m ≤ 1000000) {l0 l1 l4 l5 : Option W} {D : Po4}
    (yes : canB (limsOf k s row m) (m : Nat) = true → ∀ g, D.rt (.tup ((firstI (limsOf k s row m) (m : Nat)).map .int)) (C (c ++ g)))
    (no : canB (limsOf k s row m) (m : Nat) = false → ∀ (g : List Cell) (r4 : W), D.nx [l0, l1, some (.ref b), some (.int (m : Nat)), some r4, l5] (C (c ++ g))) :
    OkS ((sSeq (sSet (tgName 4) (eComp 1000000 [5] (vSeq (eLoc 2)) (tgName 5) bYes (eCall (F__limits) [] (evCons (eLoc 5) (evCons (eLoc 3) evNil))))) (sIf (bTru (eCall (F__can_come_to) [] (evCons (eLoc 4) (evCons (eLoc 3) evNil)))) (sRet (eCall (F__first_stakes) [] (evCons (eLoc 4) (evCons (eLoc 3) evNil)))) sNil)) [l0, l1, some (.ref b), some (.int (m : Nat)), l4, l5] (C c)) D := by
  have gl : RB.getL (C c) b = some (row.map (boundW k s)) := by unfold RB.getL; show (match c[b]? with | some (.lst ws) => some ws | some (.scr ws) => some ws | _ => none) = _; rw [hb]
  exists k_vSeq
  rw [gl]
  dsimp only
  have push : (C c).push (.lst []) = C (c ++ .lst [] :: []) := rfl
  rw [push]
  have toL : ∃ f : W → W, ∀ o ∈ row, f (boundW k s o) = prW (limI k s m o) := by
    refine ⟨fun w => match w with | .tup [.tup [.int a, .int b], .tup [.int a', .int b']] => prW (a * (m : Nat) / b + 1, a' * (m : Nat) / b') | _ => prW (0, 0), fun o ho => ?_⟩
    cases o with
    | none => rfl
    | some D =>
      show prW ((lowQ k s D).num * (m : Nat) / ((lowQ k s D).den : Nat) + 1, (highQ k D).num * (m : Nat) / ((highQ k D).den : Nat)) = prW (loI k s D m, hiI k D m)
      unfold loI hiI
      rw [floor_numden, floor_numden]
  obtain ⟨f, hf⟩ := toL
  have mf : (row.map (boundW k s)).map f = (limsOf k s row m).map prW := by
    unfold limsOf
    rw [List.map_map, List.map_map]
    exact List.map_congr_left fun o ho => hf o ho
  refine cl_map (c := c) (ws := row.map (boundW k s)) (fun us i => live_at hb i) f (by rw [List.length_map]; omega) (fun w hw => ?_) ?_
  · obtain ⟨o, ho, rfl⟩ := List.mem_map.mp hw
    rw [hf o ho]
    refine ⟨_, fun _ => rfl, rfl, fun us => run_eq ?_⟩
    have lk := limits_ok (c := c ++ .lst us :: []) h (o := o) (fun D e => hr D (e ▸ ho)) hm
    exists wipeL, kk lk
  · rw [mf]
    have cr := can_run (c := c ++ .lst ((limsOf k s row m).map prW) :: []) (x := .ref c.length) (ls := limsOf k s row m) c_seq (by rw [lims_len]; exact hl) (m : Nat)
    have fr := first_run (c := c ++ .lst ((limsOf k s row m).map prW) :: []) (x := .ref c.length) (ls := limsOf k s row m) c_seq (by rw [lims_len]; exact hl) (m : Nat)
    cases hc : canB (limsOf k s row m) (m : Nat) with
    | true =>
      rw [hc] at cr
      exists kk cr, truth, kk fr
      exact yes hc _
    | false =>
      rw [hc] at cr
      exists kk cr, truth
      exact no hc _ _
/-- the least sum, of those below a bound -/
def leastM (k s : Rat) (row : List (Option Rat)) : Nat → Option Nat
  | 0 => none
  | n + 1 => match leastM k s row n with
    | some m => some m
    | none => if canB (limsOf k s row (n + 1)) ((n + 1 : Nat) : Int) = true then some (n + 1) else none
theorem leastM_some {N m : Nat} : leastM k s row N = some m → 1 ≤ m ∧ m ≤ N ∧ canB (limsOf k s row m) (m : Nat) = true ∧ ∀ j, 1 ≤ j → j < m → canB (limsOf k s row j) (j : Nat) = false := by
  have none_ : ∀ N, leastM k s row N = none → ∀ j, 1 ≤ j → j ≤ N → canB (limsOf k s row j) (j : Nat) = false := by
    intro N
    induction N with
    | zero => intro _ j h1 h2; omega
    | succ N ih =>
      intro h j h1 h2
      unfold leastM at h
      cases e : leastM k s row N with
      | some m => rw [e] at h; cases h
      | none =>
        rw [e] at h
        dsimp only at h
        rcases Nat.lt_or_eq_of_le h2 with q | rfl
        · exact ih e j h1 (by omega)
        · cases hc : canB (limsOf k s row (N + 1)) ((N + 1 : Nat) : Int) with
          | false => rfl
          | true => rw [if_pos hc] at h; cases h
  induction N with
  | zero => intro h; cases h
  | succ N ih =>
    intro h
    unfold leastM at h
    cases e : leastM k s row N with
    | some m' =>
      rw [e] at h
      cases h
      obtain ⟨a, b, d, f⟩ := ih e
      exact ⟨a, by omega, d, f⟩
    | none =>
      rw [e] at h
      dsimp only at h
      split at h
      · rename_i hc
        cases h
        exact ⟨by omega, Nat.le_refl _, hc, fun j h1 h2 => none_ N e j h1 (by omega)⟩
      · cases h
theorem leastM_none {N : Nat} : leastM k s row N = none → ∀ j, 1 ≤ j → j ≤ N → canB (limsOf k s row j) (j : Nat) = false := by
  induction N with
  | zero => intro _ j h1 h2; omega
  | succ N ih =>
    intro h j h1 h2
    unfold leastM at h
    cases e : leastM k s row N with
    | some m => rw [e] at h; cases h
    | none =>
      rw [e] at h
      dsimp only at h
      rcases Nat.lt_or_eq_of_le h2 with q | rfl
      · exact ih e j h1 (by omega)
      · cases hc : canB (limsOf k s row (N + 1)) ((N + 1 : Nat) : Int) with
        | false => rfl
        | true => rw [if_pos hc] at h; cases h
theorem least_no (h1 : F_comes [x, y] (C c) = .ok (.bl false) (C c)) : F_least_stakes [x, y] (C c) = .ok .non (C c) := by
  refine run_eq ?_
  unfold F_least_stakes
  exists kk h1, truth
  rw [c_trim0 rfl]
  exact ⟨rfl, rfl⟩
theorem least_yes (h : PoolQ k s) (h1 : F_comes [x, y] (C c) = .ok (.bl true) (C c)) (hx : seqOf (C c) x = some [frW k, frW s, .int (n : Nat)]) (hy : seqOf (C c) y = some (row.map rowW)) (hl : row.length ≤ 4) (hr : ∀ D, some D ∈ row → PayQ s D) {Q : Res W → Prop}
    (some_ : ∀ m, leastM k s row 5000 = some m → Q (.ok (.tup ((firstI (limsOf k s row m) (m : Nat)).map .int)) (C c))) (none_ : leastM k s row 5000 = none → Q (.exc 1 (.str "stakes") (C c))) : Q (F_least_stakes [x, y] (C c)) := by
  have bo := bounds_ok (c := c) h hx hy hl hr
  suffices hh : Ok (F_least_stakes [x, y] (C c)) (fun i p st => leastM k s row 5000 = none ∧ i = 1 ∧ p = .str "stakes" ∧ st = C c) fun a st => ∃ m, leastM k s row 5000 = some m ∧ a = .tup ((firstI (limsOf k s row m) (m : Nat)).map .int) ∧ st = C c by
    cases e : F_least_stakes [x, y] (C c) with
    | ok a st => rw [e] at hh; obtain ⟨m, e1, rfl, rfl⟩ := hh; exact some_ m e1
    | exc i p st => rw [e] at hh; obtain ⟨e1, rfl, rfl, rfl⟩ := hh; exact none_ e1
    | err => rw [e] at hh; exact hh.elim
  unfold F_least_stakes
  have r2 : (-1000000 ≤ (1 : Int) ∧ (1 : Int) ≤ 1000000) ∧ -1000000 ≤ (5000 + 1 : Int) ∧ (5000 + 1 : Int) ≤ 1000000 := by decide
  have t5 : (5000 + 1 - 1 : Int).toNat = 5000 := rfl
  exists kk h1, truth, kk bo, k_rng2, r2, t5
  generalize hc1 : c ++ Cell.lst (row.map (boundW k s)) :: [] = c1
  have hb : c1[c.length]? = some (.lst (row.map (boundW k s))) := by rw [← hc1]; exact c_get
  have cut : ∀ g : List Cell, (C (c1 ++ g)).cut c.length = C c := fun g => by
    rw [← hc1, List.append_assoc]; exact x_cutA
  refine loop_fix (upFrom 1 5000) (fun i l st => ∃ (g : List Cell) (a b d : Option W), l = [some x, some y, some (.ref c.length), a, b, d] ∧ st = C (c1 ++ g) ∧ ∀ j, 1 ≤ j → j ≤ i → canB (limsOf k s row j) (j : Nat) = false) (fun _ _ _ _ => rfl) ?_ ?_ 1000000 0 _ _ (by rw [up_len]; decide) (Nat.zero_le _) ⟨[], none, none, none, rfl, by rw [List.append_nil], fun j h1 h2 => by omega⟩
  · rintro i w l st hw ⟨g, a, b, d, rfl, rfl, hj⟩
    obtain ⟨hi, rfl⟩ := up_getA hw
    refine ⟨_, rfl, ?_⟩
    have e1 : (1 : Int) + (i : Nat) = ((i + 1 : Nat) : Int) := by omega
    rw [e1]
    have hb2 : (c1 ++ g)[c.length]? = some (.lst (row.map (boundW k s))) := by
      rw [List.getElem?_append_left (List.getElem?_eq_some_iff.mp hb).1]; exact hb
    refine least_body h hl hr hb2 (m := i + 1) (by omega) (fun hc g2 => ?_) (fun hc g2 r4 => ?_)
    · have lm : leastM k s row 5000 = some (i + 1) := by
        cases e : leastM k s row 5000 with
        | none => rw [leastM_none e (i + 1) (by omega) (by omega)] at hc; cases hc
        | some m =>
          obtain ⟨q1, q2, q3, q4⟩ := leastM_some e
          rcases Nat.lt_trichotomy m (i + 1) with z | z | z
          · rw [hj m q1 (by omega)] at q3; cases q3
          · rw [z]
          · rw [q4 (i + 1) (by omega) z] at hc; cases hc
      show Ok (trim c.length _ (C ((c1 ++ g) ++ g2))) _ _
      rw [← hc1, List.append_assoc, List.append_assoc, c_trim (firstI_pure _)]
      exact ⟨i + 1, lm, rfl, rfl⟩
    · refine ⟨g ++ g2, _, _, _, rfl, by rw [List.append_assoc], fun j h1 h2 => ?_⟩
      rcases Nat.lt_or_eq_of_le h2 with q | rfl
      · exact hj j h1 (by omega)
      · exact hc
  · rintro l st ⟨g, a, b, d, rfl, rfl, hj⟩
    rw [up_len] at hj
    have lm : leastM k s row 5000 = none := by
      cases e : leastM k s row 5000 with
      | none => rfl
      | some m =>
        obtain ⟨q1, q2, q3, q4⟩ := leastM_some e
        rw [hj m q1 q2] at q3; cases q3
    have pu : W.pure (.str "stakes") = true := rfl
    exists lm
    rw [if_pos (by rfl), cut]
end
end LW

set_option Elab.async false
set_option linter.all false
set_option maxRecDepth 100000
set_option maxHeartbeats 4000000
namespace LW
open PySem PySem.W RB L2
local macro_rules | `(tactic| exists $es,*) => `(tactic| simp (config := {decide := false, implicitDefEqProofs := false, maxSteps := 1000000}) only [k_ok, k_exc, k_err, k_ite, k_iteS, k_nx, k_rt, k_loc, k_lit, k_nil, k_cons, k_tup, k_lst, k_bin, k_eB, k_eU, k_call, k_tru, k_not, k_and, k_or, k_if, k_eAnd, k_eOr, k_eNot, k_val, k_chain, k_sNil, k_sSeq, k_sSet, tgName, tgCons, tgNil, Option.bind_some, k_sDrop, k_sRet, k_sRetN, k_sIf, k_sBreak, k_sCont, k_sFor, k_sRaise, k_sTry, k_defn, k_rng1, k_comp,
  v_add, v_sub, v_mul, v_mod, v_div, v_lt, v_le, v_gt, v_ge, v_eq, v_ne, v_neg, v_int, v_min,
  List.map_cons, List.map_nil, List.length_cons, List.length_nil, List.replicate_succ, List.replicate_zero, List.cons_append, List.nil_append, List.append_nil, List.getElem?_cons_succ, List.getElem?_cons_zero, List.set_cons_succ, List.set_cons_zero,
  Nat.reduceAdd, Nat.reduceSub, Nat.zero_add, decide_eq_true_eq, Bool.not_eq_true', decide_eq_false_iff_not, Bool.true_eq_false, Bool.false_eq_true, if_true, if_false, ite_true, ite_false, ite_self, reduceIte, Nat.reduceLeDiff, true_and, and_true, not_true_eq_false, not_false_eq_true, decide_true, decide_false, Bool.not_true, Bool.not_false, $[$es:term],*])
section
variable {c g : List Cell} {X : XP} {P : W → Sto → Prop} {k s : Rat} {n : Nat} {w x y z : W} {row : List (Option Rat)}
theorem lcomes_ok (h : PoolQ k s) (hl : row.length ≤ 4) (hr : ∀ D, some D ∈ row → PayQ s D) : F__law_comes [.tup [frW k, frW s, .int (n : Nat)], .tup (row.map rowW)] (C c) = .ok (.bl (decide (sumQ (lowsQ k s row) < 1) && !decide (sumQ (highsQ k row) < 1))) (C c) := by
  refine run_eq ?_
  unfold F__law_comes
  have hfl : (row.filterMap id).length ≤ 4 := Nat.le_trans (List.length_filterMap_le _ _) hl
  have lowb : Bq 4000 (sumQ (lowsQ k s row)) := by
    have : ∀ q ∈ lowsQ k s row, Bq 100 q := fun q hq => by
      obtain ⟨D, hD, rfl⟩ := List.mem_map.mp hq
      exact low_bq h (hr D (mem_some hD))
    refine (bq_sum this).mono ?_
    have : (lowsQ k s row).length ≤ 4 := by unfold lowsQ; rw [List.length_map]; exact hfl
    have := Nat.mul_le_mul_right 101 this
    omega
  have highb : Bq 4000 (sumQ (highsQ k row)) := by
    have : ∀ q ∈ highsQ k row, Bq 100 q := fun q hq => by
      obtain ⟨D, hD, rfl⟩ := List.mem_map.mp hq
      exact high_bq h (hr D (mem_some hD))
    refine (bq_sum this).mono ?_
    have : (highsQ k row).length ≤ 4 := by unfold highsQ; rw [List.length_map]; exact hfl
    have := Nat.mul_le_mul_right 101 this
    omega
  have p0 : ∀ (p q : Rat) (st : Sto) (X : XP) (P : W → Sto → Prop), Ok (wIx (pairW p q) (.int 0) st) X P = P (frW p) st := fun p q st X P => rfl
  have p1 : ∀ (p q : Rat) (st : Sto) (X : XP) (P : W → Sto → Prop), Ok (wIx (pairW p q) (.int 1) st) X P = P (frW q) st := fun p q st X P => rfl
  have bl1 := lbelow_ok (c := c) lowb b1
  have bl2 := lbelow_ok (c := c) highb b1
  rw [one_fr] at bl1 bl2
  exists kk (lspread_ok (c := c) (n := n) h hl hr), p0, p1, (by decide : (2 : Nat) ≤ 1000), kk bl1, kk bl2
  by_cases hb : sumQ (lowsQ k s row) < 1
  · exists hb
    rw [c_trim0 rfl]
    exact ⟨by simp, rfl⟩
  · exists hb
    rw [c_trim0 rfl]
    exact ⟨by simp, rfl⟩
theorem lbounds_ok (h : PoolQ k s) {D : Rat} (hD : PayQ s D) {m : Nat} (hm : m ≤ 1000000) : F__law_bounds [.tup [frW k, frW s, .int (n : Nat)], frW D, .int (m : Nat)] (C c) = .ok (prW (limI k s m (some D))) (C c) := by
  refine run_eq ?_
  unfold F__law_bounds
  have i0 : ∀ (st : Sto) (X : XP) (P : W → Sto → Prop), Ok (wIx (.tup [frW k, frW s, .int (n : Nat)]) (.int 0) st) X P = P (frW k) st := fun st X P => rfl
  have i1 : ∀ (st : Sto) (X : XP) (P : W → Sto → Prop), Ok (wIx (.tup [frW k, frW s, .int (n : Nat)]) (.int 1) st) X P = P (frW s) st := fun st X P => rfl
  have m1 := lminus_ok (c := c) b1 (h.bk.mono (by decide))
  rw [one_fr] at m1
  have p1 := lplus_ok (c := c) (hD.b.mono (by decide)) (h.bs.mono (by decide : 7 ≤ 4000))
  have hds := ds_pos h hD.d0
  have bds := bd_add hD.b h.bs
  have gen : ∀ {q : Rat}, 0 < q → Bq 88 q → (mulOk (1 - k).num ((q.den : Nat) : Int) = true) ∧ (mulOk ((1 - k).num * ((q.den : Nat) : Int)) ((m : Nat) : Int) = true) ∧ (mulOk (((1 - k).den : Nat) : Int) q.num = true) ∧ divOk ((((1 - k).den : Nat) : Int) * q.num) = true ∧ ((1 - k) * q⁻¹ * ((m : Nat) : Rat)).floor = (1 - k).num * ((q.den : Nat) : Int) * ((m : Nat) : Int) / ((((1 - k).den : Nat) : Int) * q.num) := fun {q} hq bq => by
    have qn := num_pos hq
    have e : (((1 - k).den : Nat) : Int) * q.num = (((1 - k).den * q.num.natAbs : Nat) : Int) := by rw [Int.natCast_mul]; congr 1; omega
    have hpos : 0 < (1 - k).den * q.num.natAbs := Nat.mul_pos (1 - k).den_pos (by omega)
    have lt1 : (1 - k).den * q.num.natAbs < 2 ^ 8000 := by
      have := Nat.mul_lt_mul'' h.br.2 bq.1
      rw [← Nat.pow_add] at this
      exact Nat.lt_of_lt_of_le this (Nat.pow_le_pow_right (by decide) (by decide))
    have lt2 : ((1 - k).num * ((q.den : Nat) : Int)).natAbs < 2 ^ 4000 := by
      rw [Int.natAbs_mul, Int.natAbs_natCast]
      have := Nat.mul_lt_mul'' h.br.1 bq.2
      rw [← Nat.pow_add] at this
      exact Nat.lt_of_lt_of_le this (Nat.pow_le_pow_right (by decide) (by decide))
    refine ⟨mul_bd (h.br.mono (by decide)).1 (bdn (bq.mono (by decide))), mul_bd lt2 (nat_bd hm), mul_bd (bdn (h.br.mono (by decide))) (bq.mono (by decide)).1, by rw [e]; exact div_bd hpos lt1, ?_⟩
    rw [← mk_over hq, floor_mkt _ hpos, e]
  obtain ⟨a1, a2, a3, a4, a5⟩ := gen hds bds
  have lo : loI k s D m = (1 - k).num * (((D + s).den : Nat) : Int) * ((m : Nat) : Int) / ((((1 - k).den : Nat) : Int) * (D + s).num) + 1 := by unfold loI lowQ; rw [a5]
  by_cases h0 : D = 0
  · have n0 : (0 < D.num) = False := eq_false (by rw [Rat.num_eq_zero.mpr h0]; decide)
    exists i0, i1, i0_fr, i1_fr, (by decide : (2 : Nat) ≤ 1000), kk m1, kk p1, a1, a2, a3, a4, n0
    rw [c_trim0 rfl]
    refine ⟨?_, rfl⟩
    show _ = W.tup [.int (loI k s D m), .int (hiI k D m)]
    rw [lo, h0, hi_zero]
  · have hp : 0 < D := Rat.lt_of_le_of_ne hD.d0 (Ne.symm h0)
    have n0 : (0 < D.num) = True := eq_true (num_pos hp)
    obtain ⟨b1', b2, b3, b4, b5⟩ := gen hp (hD.b.mono (by decide))
    exists i0, i1, i0_fr, i1_fr, (by decide : (2 : Nat) ≤ 1000), kk m1, kk p1, a1, a2, a3, a4, n0, b1', b2, b3, b4
    rw [c_trim0 rfl]
    refine ⟨?_, rfl⟩
    show _ = W.tup [.int (loI k s D m), .int (hiI k D m)]
    rw [lo, hi_pos h0, b5]
    have mn : ∀ a b : Int, (if b < a then b else a) = min a b := fun a b => by rw [Int.min_def]; split <;> split <;> omega
    rw [mn]
theorem pr0 (p : Int × Int) (st : Sto) (X : XP) (P : W → Sto → Prop) : Ok (wIx (prW p) (.int 0) st) X P = P (.int p.1) st := rfl
theorem pr1 (p : Int × Int) (st : Sto) (X : XP) (P : W → Sto → Prop) : Ok (wIx (prW p) (.int 1) st) X P = P (.int p.2) st := rfl
theorem lims_snoc (m : Nat) (o : Option Rat) (r : List (Option Rat)) : limsOf k s (r ++ [o]) m = limsOf k s r m ++ [limI k s m o] := by unfold limsOf; rw [List.map_append]; rfl
theorem sumLo_snoc (l : List (Int × Int)) (p : Int × Int) : sumLo (l ++ [p]) = sumLo l + p.1 := by unfold sumLo; simp
theorem sumHi_snoc (l : List (Int × Int)) (p : Int × Int) : sumHi (l ++ [p]) = sumHi l + p.2 := by unfold sumHi; simp
theorem leastsum_ok (h : PoolQ k s) (hl : row.length ≤ 4) (hr : ∀ D, some D ∈ row → PayQ s D) : F__law_least_sum [.tup [frW k, frW s, .int (n : Nat)], .tup (row.map rowW), .int 5000] (C c) = .ok (match leastM k s row 5000 with | some m => .int (m : Nat) | none => .non) (C c) := by
  refine run_eq ?_
  unfold F__law_least_sum
  have r2 : (-1000000 ≤ (1 : Int) ∧ (1 : Int) ≤ 1000000) ∧ -1000000 ≤ (5000 + 1 : Int) ∧ (5000 + 1 : Int) ≤ 1000000 := by decide
  have t5 : (5000 + 1 - 1 : Int).toNat = 5000 := rfl
  exists k_rng2, r2, t5
  refine loop_fix (upFrom 1 5000) (fun i l st => (∃ l3 l4 l5 l6 l7 l8 : Option W, l = [some (.tup [frW k, frW s, .int (n : Nat)]), some (.tup (row.map rowW)), some (.int 5000), l3, l4, l5, l6, l7, l8]) ∧ st = C c ∧ ∀ j, 1 ≤ j → j ≤ i → canB (limsOf k s row j) (j : Nat) = false) (fun _ _ _ _ => rfl) ?_ ?_ 1000000 0 _ _ (by rw [up_len]; decide) (Nat.zero_le _) ⟨⟨none, none, none, none, none, none, rfl⟩, rfl, fun j h1 h2 => by omega⟩
  · rintro i w l st hw ⟨⟨l3, l4, l5, l6, l7, l8, rfl⟩, rfl, hj⟩
    obtain ⟨hi, rfl⟩ := up_getA hw
    refine ⟨_, rfl, ?_⟩
    have e1 : (1 : Int) + (i : Nat) = ((i + 1 : Nat) : Int) := by omega
    rw [e1]
    have vs : ∀ (a b d e f g : Option W) (st : Sto) (X : XP) (P : Src → Sto → Prop), Ok (vSeq (eLoc 1) [some (.tup [frW k, frW s, .int (n : Nat)]), some (.tup (row.map rowW)), some (.int 5000), a, b, d, e, f, g] st) X P = P (.fix (row.map rowW)) st := fun a b d e f g st X P => rfl
    exists vs
    refine loop_fix (row.map rowW) (fun q l st => (∃ l7 l8 : Option W, l = [some (.tup [frW k, frW s, .int (n : Nat)]), some (.tup (row.map rowW)), some (.int 5000), some (.int ((i + 1 : Nat) : Int)), some (.int (sumLo (limsOf k s (row.take q) (i + 1)))), some (.int (sumHi (limsOf k s (row.take q) (i + 1)))), some (.bl (!((limsOf k s (row.take q) (i + 1)).any fun p => decide (p.2 < p.1)))), l7, l8]) ∧ st = C c) (fun _ _ _ _ => rfl) ?_ ?_ 1000000 0 _ _ (by rw [rowlen]; omega) (Nat.zero_le _) ⟨⟨_, _, rfl⟩, rfl⟩
    · rintro q w l st hw ⟨⟨l7, l8, rfl⟩, rfl⟩
      rw [List.getElem?_map] at hw
      cases eo : row[q]? with
      | none => rw [eo] at hw; cases hw
      | some o =>
        rw [eo] at hw
        cases hw
        refine ⟨_, rfl, ?_⟩
        have tk : row.take (q + 1) = row.take q ++ [o] := by rw [List.take_succ, eo]; rfl
        rw [tk, lims_snoc, sumLo_snoc, sumHi_snoc, List.any_append]
        cases o with
        | none =>
          have v : ∀ (st : Sto) (X : XP) (P : W → Sto → Prop), Ok (wNotN (rowW none) .non st) X P = P (.bl false) st := fun st X P => rfl
          exists v
          refine ⟨some (rowW none), l8, ?_⟩
          have z1 : (limI k s (i + 1) none).1 = 0 := rfl
          have z2 : (limI k s (i + 1) none).2 = 0 := rfl
          have z3 : ([limI k s (i + 1) none].any fun p => decide (p.2 < p.1)) = false := rfl
          rw [z1, z2, z3, Int.add_zero, Int.add_zero, Bool.or_false]
        | some D =>
          have hD := hr D (List.mem_of_getElem? eo)
          have v : ∀ (st : Sto) (X : XP) (P : W → Sto → Prop), Ok (wNotN (frW D) .non st) X P = P (.bl true) st := fun st X P => rfl
          have rD : rowW (some D) = frW D := rfl
          have bd := lbounds_ok (c := c) (n := n) h hD (m := i + 1) (by omega)
          have z3 : ([limI k s (i + 1) (some D)].any fun p => decide (p.2 < p.1)) = decide ((limI k s (i + 1) (some D)).2 < (limI k s (i + 1) (some D)).1) := by simp
          rw [z3]
          by_cases hlt : (limI k s (i + 1) (some D)).2 < (limI k s (i + 1) (some D)).1
          · exists rD, v, kk bd, pr0, pr1, hlt
            rw [Bool.or_true]
            exact ⟨_, _, rfl⟩
          · exists rD, v, kk bd, pr0, pr1, hlt
            rw [Bool.or_false]
            exact ⟨_, _, rfl⟩
    · rintro l st ⟨⟨l7, l8, rfl⟩, rfl⟩
      rw [rowlen, List.take_length]
      have cv : canB (limsOf k s row (i + 1)) ((i + 1 : Nat) : Int) = (!((limsOf k s row (i + 1)).any fun p => decide (p.2 < p.1)) && (decide (sumLo (limsOf k s row (i + 1)) ≤ ((i + 1 : Nat) : Int)) && decide (((i + 1 : Nat) : Int) ≤ sumHi (limsOf k s row (i + 1))))) := rfl
      cases hc : canB (limsOf k s row (i + 1)) ((i + 1 : Nat) : Int) with
      | true =>
        have lm : leastM k s row 5000 = some (i + 1) := by
          cases e : leastM k s row 5000 with
          | none => rw [leastM_none e (i + 1) (by omega) (by omega)] at hc; cases hc
          | some m =>
            obtain ⟨q1, q2, q3, q4⟩ := leastM_some e
            rcases Nat.lt_trichotomy m (i + 1) with z | z | z
            · rw [hj m q1 (by omega)] at q3; cases q3
            · rw [z]
            · rw [q4 (i + 1) (by omega) z] at hc; cases hc
        rw [hc] at cv
        have cv := cv.symm
        rw [Bool.and_eq_true, Bool.and_eq_true, decide_eq_true_eq, decide_eq_true_eq] at cv
        obtain ⟨c1, c2, c3⟩ := cv
        rw [c1, lm]
        exists truth, c2, c3
        rw [c_trim0 rfl]
        exact ⟨rfl, rfl⟩
      | false =>
        have cont : ∃ l3 l4 l5 l6 l7 l8 : Option W, True := ⟨none, none, none, none, none, none, trivial⟩
        rw [hc] at cv
        have nx : ∀ j, 1 ≤ j → j ≤ i + 1 → canB (limsOf k s row j) (j : Nat) = false := fun j h1 h2 => by
          rcases Nat.lt_or_eq_of_le h2 with q | rfl
          · exact hj j h1 (by omega)
          · exact hc
        cases ha : (limsOf k s row (i + 1)).any fun p => decide (p.2 < p.1) with
        | true =>
          exists truth
          exact ⟨⟨_, _, _, _, _, _, rfl⟩, nx⟩
        | false =>
          rw [ha, Bool.not_false, Bool.true_and] at cv
          by_cases hlo : sumLo (limsOf k s row (i + 1)) ≤ ((i + 1 : Nat) : Int)
          · rw [decide_eq_true hlo, Bool.true_and] at cv
            have hhi : ¬ ((i + 1 : Nat) : Int) ≤ sumHi (limsOf k s row (i + 1)) := of_decide_eq_false cv.symm
            exists truth, hlo, hhi
            exact ⟨⟨_, _, _, _, _, _, rfl⟩, nx⟩
          · exists truth, hlo
            exact ⟨⟨_, _, _, _, _, _, rfl⟩, nx⟩
  · rintro l st ⟨⟨l3, l4, l5, l6, l7, l8, rfl⟩, rfl, hj⟩
    rw [up_len] at hj
    have lm : leastM k s row 5000 = none := by
      cases e : leastM k s row 5000 with
      | none => rfl
      | some m =>
        obtain ⟨q1, q2, q3, q4⟩ := leastM_some e
        rw [hj m q1 q2] at q3; cases q3
    rw [lm]
    exists c_trim0
    rw [c_trim0 rfl]
    exact ⟨rfl, rfl⟩
end
end LW

set_option Elab.async false
set_option linter.all false
set_option maxRecDepth 100000
set_option maxHeartbeats 4000000
namespace LW
open PySem PySem.W RB L2
local macro_rules | `(tactic| exists $es,*) => `(tactic| simp (config := {decide := false, implicitDefEqProofs := false, maxSteps := 1000000}) only [k_ok, k_exc, k_err, k_ite, k_iteS, k_nx, k_rt, k_loc, k_lit, k_nil, k_cons, k_tup, k_lst, k_bin, k_eB, k_eU, k_call, k_tru, k_not, k_and, k_or, k_if, k_eAnd, k_eOr, k_eNot, k_val, k_chain, k_sNil, k_sSeq, k_sSet, tgName, tgCons, tgNil, Option.bind_some, k_sDrop, k_sRet, k_sRetN, k_sIf, k_sBreak, k_sCont, k_sFor, k_sRaise, k_sTry, k_defn, k_rng1, k_comp,
  v_add, v_sub, v_mul, v_mod, v_div, v_lt, v_le, v_gt, v_ge, v_eq, v_ne, v_neg, v_int, v_min,
  List.map_cons, List.map_nil, List.length_cons, List.length_nil, List.replicate_succ, List.replicate_zero, List.cons_append, List.nil_append, List.append_nil, List.getElem?_cons_succ, List.getElem?_cons_zero, List.set_cons_succ, List.set_cons_zero,
  Nat.reduceAdd, Nat.reduceSub, Nat.zero_add, decide_eq_true_eq, Bool.not_eq_true', decide_eq_false_iff_not, Bool.true_eq_false, Bool.false_eq_true, if_true, if_false, ite_true, ite_false, ite_self, reduceIte, Nat.reduceLeDiff, true_and, and_true, not_true_eq_false, not_false_eq_true, decide_true, decide_false, Bool.not_true, Bool.not_false, $[$es:term],*])
section
variable {c g : List Cell} {X : XP} {P : W → Sto → Prop} {k s : Rat} {n : Nat} {w x y z : W} {row : List (Option Rat)}
theorem k_slC {a e : Ev} {l : Lo} {st : Sto} {X : XP} {P : W → Sto → Prop} : Ok (eSl a (poSome e) poNone l st) X P = Ok (a l st) X fun x st1 => Ok (e l st1) X fun w st2 => match w with | .int i => Ok (wSl x (some i) none st2) X P | _ => False := by
  unfold eSl poSome; rw [k_bind]; congr 1; funext x st1; rw [k_bind, k_bind]; congr 1; funext w st2; cases w <;> rfl
theorem cut_drop {α : Type} {xs : List α} {j : Nat} (h : j ≤ xs.length) : cutW xs (some ((j : Nat) : Int)) none = xs.drop j := by
  unfold cutW
  rw [HT.sIx_nat, HT.sIx_none, Nat.min_eq_left h]
  exact List.take_of_length_le (by rw [List.length_drop]; omega)
theorem v_slL {a : Nat} {ws : List W} (h : RB.getL (C c) a = some ws) {j : Nat} (hj : j ≤ ws.length) (X : XP) (P : W → Sto → Prop) : Ok (wSl (.ref a) (some ((j : Nat) : Int)) none (C c)) X P = P (.ref c.length) (C (c ++ .lst (ws.drop j) :: [])) := by
  unfold wSl
  simp only [h]
  rw [cut_drop hj]; rfl
theorem lfirst_ok (h : PoolQ k s) (hl : row.length ≤ 4) (hr : ∀ D, some D ∈ row → PayQ s D) {m : Nat} (hm : m ≤ 1000000) : F__law_first_stakes [.tup [frW k, frW s, .int (n : Nat)], .tup (row.map rowW), .int (m : Nat)] (C c) = .ok (.tup ((firstI (limsOf k s row m) (m : Nat)).map .int)) (C c) := by
  refine run_eq ?_
  unfold F__law_first_stakes
  generalize hT : sSeq (sSet (tgName 4) _) _ = T
  have vs : ∀ (a b d e f g q : Option W) (st : Sto) (X : XP) (P : Src → Sto → Prop), Ok (vSeq (eLoc 1) [some (.tup [frW k, frW s, .int (n : Nat)]), some (.tup (row.map rowW)), some (.int (m : Nat)), a, b, d, e, f, g, q] st) X P = P (.fix (row.map rowW)) st := fun a b d e f g q st X P => rfl
  have toO : ∃ f : W → W, (row.map rowW).map f = (limsOf k s row m).map prW ∧ f .non = prW (limI k s m none) ∧ ∀ D, f (frW D) = prW (limI k s m (some D)) := by
    refine ⟨fun w => match w with | .tup [.int a, .int b] => prW (limI k s m (some (mkRat a b.toNat))) | _ => prW (limI k s m none), ?_, rfl, fun D => ?_⟩
    · unfold limsOf
      rw [List.map_map, List.map_map]
      refine List.map_congr_left fun o _ => ?_
      cases o with
      | none => rfl
      | some D => show prW (limI k s m (some (mkRat D.num (Int.toNat (D.den : Nat))))) = _; rw [Int.toNat_natCast, Rat.mkRat_self]; rfl
    · show prW (limI k s m (some (mkRat D.num (Int.toNat (D.den : Nat))))) = _
      rw [Int.toNat_natCast, Rat.mkRat_self]
  obtain ⟨f, f1, f2, f3⟩ := toO
  have push : (C c).push (.lst []) = C (c ++ .lst [] :: []) := rfl
  exists vs, push
  refine cl_map (c := c) (ws := row.map rowW) (fun us i => rfl) f (by rw [rowlen]; omega) (fun w hw => ?_) ?_
  · rcases mem_row hw with rfl | ⟨D, hD, rfl⟩
    · refine ⟨_, fun _ => rfl, by rw [f2]; rfl, fun us => run_eq ?_⟩
      have v : ∀ (st : Sto) (X : XP) (P : W → Sto → Prop), Ok (wIsN .non .non st) X P = P (.bl true) st := fun st X P => rfl
      exists wipeL, v, f2, (by decide : (2 : Nat) ≤ 1000)
      rfl
    · refine ⟨_, fun _ => rfl, by rw [f3]; rfl, fun us => run_eq ?_⟩
      have v : ∀ (st : Sto) (X : XP) (P : W → Sto → Prop), Ok (wIsN (frW D) .non st) X P = P (.bl false) st := fun st X P => rfl
      have b := lbounds_ok (c := c ++ .lst us :: []) (n := n) h (hr D hD) (m := m) hm
      exists wipeL, v, kk b, f3
  rw [f1]
  subst hT
  have hll := lims_len (k := k) (s := s) (row := row) m
  generalize limsOf k s row m = ls at hll ⊢
  generalize hc1 : c ++ Cell.lst (ls.map prW) :: [] = c1
  have hB : c1[c.length]? = some (.lst (ls.map prW)) := by rw [← hc1]; exact c_get
  have ln : ∀ (st : Sto) (X : XP) (P : W → Sto → Prop), Ok (fLen [.tup (row.map rowW)] st) X P = P (.int (row.length : Nat)) st := fun st X P => by rw [v_lenL (by intro z h; cases h) (ws := row.map rowW) rfl, rowlen]
  have rg : -1000000 ≤ ((row.length : Nat) : Int) ∧ ((row.length : Nat) : Int) ≤ 1000000 := by omega
  have push1 : (C c1).push (.lst []) = C (c1 ++ .lst (([] : List Int).map .int) :: []) := rfl
  exists push1, (by decide : (0 : Nat) ≤ 1000), ln, rg, Int.toNat_natCast
  refine loop_fix (upFrom 0 row.length) (fun i l st => ∃ (us : List Int) (g : List Cell) (l5 l6 l7 l8 l9 : Option W), l = [some (.tup [frW k, frW s, .int (n : Nat)]), some (.tup (row.map rowW)), some (.int (m : Nat)), some (.ref c.length), some (.ref c1.length), l5, l6, l7, l8, l9] ∧ st = C (c1 ++ .lst (us.map .int) :: g) ∧ us.length = i ∧ us ++ firstI (ls.drop i) ((m : Int) - us.sum) = firstI ls (m : Nat)) (fun _ _ _ _ => rfl) ?_ ?_ 1000000 0 _ _ (by rw [up_len]; omega) (Nat.zero_le _) ⟨[], [], none, none, none, none, none, rfl, rfl, rfl, by show firstI ls ((m : Int) - 0) = _; rw [Int.sub_zero]⟩
  · rintro i w l st hw ⟨us, g, l5, l6, l7, l8, l9, rfl, rfl, hu, hf⟩
    obtain ⟨hi, rfl⟩ := up_get hw
    refine ⟨_, rfl, ?_⟩
    have hi2 : i < ls.length := by omega
    have s4 := v_sumI (st := C (c1 ++ .lst (us.map .int) :: g)) (x := .ref c1.length) (l := us) c_seq
    have e1 : ((i : Nat) : Int) + 1 = ((i + 1 : Nat) : Int) := by omega
    have gB : ∀ g' : List Cell, RB.getL (C (c1 ++ g')) c.length = some (ls.map prW) := fun g' => by
      unfold RB.getL
      show (match (c1 ++ g')[c.length]? with | some (.lst ws) => some ws | some (.scr ws) => some ws | _ => none) = _
      rw [List.getElem?_append_left (List.getElem?_eq_some_iff.mp hB).1, hB]
    have sl := v_slL (c := c1 ++ .lst (us.map .int) :: g) (gB _) (j := i + 1) (by rw [List.length_map]; omega)
    rw [← List.map_drop] at sl
    generalize hBB : c1 ++ Cell.lst (us.map .int) :: g = BB at s4 sl
    have glS : RB.getL (C (BB ++ .lst ((ls.drop (i + 1)).map prW) :: [])) BB.length = some ((ls.drop (i + 1)).map prW) := by unfold RB.getL; rw [c_get]
    have push2 : (C (BB ++ .lst ((ls.drop (i + 1)).map prW) :: [])).push (.lst []) = C ((BB ++ .lst ((ls.drop (i + 1)).map prW) :: []) ++ .lst [] :: []) := rfl
    exists s4, k_vSeq, k_slC, e1, sl, glS, push2
    refine cl_map (c := BB ++ .lst ((ls.drop (i + 1)).map prW) :: []) (ws := (ls.drop (i + 1)).map prW) (fun us i => live_at c_get i) pB (by rw [List.length_map, List.length_drop]; omega) (fun w hw => ?_) ?_
    · obtain ⟨p, _, rfl⟩ := List.mem_map.mp hw
      refine ⟨_, fun _ => rfl, rfl, fun us => run_eq ?_⟩
      exists wipeL, pr1
      rfl
    · rw [mapB]
      have s5 := v_sumI (st := C ((BB ++ .lst ((ls.drop (i + 1)).map prW) :: []) ++ .lst (((ls.drop (i + 1)).map Prod.snd).map .int) :: [])) (x := .ref (BB ++ Cell.lst ((ls.drop (i + 1)).map prW) :: []).length) (l := (ls.drop (i + 1)).map Prod.snd) c_seq
      generalize hG : [Cell.lst ((ls.drop (i + 1)).map prW), Cell.lst (((ls.drop (i + 1)).map Prod.snd).map .int)] = G
      have ee : (BB ++ .lst ((ls.drop (i + 1)).map prW) :: []) ++ .lst (((ls.drop (i + 1)).map Prod.snd).map .int) :: [] = c1 ++ Cell.lst (us.map .int) :: (g ++ G) := by rw [← hBB, ← hG]; simp
      rw [ee] at s5 ⊢
      obtain ⟨p, hp⟩ : ∃ p, ls[i]? = some p := ⟨ls[i], List.getElem?_eq_getElem hi2⟩
      have dr : ls.drop i = p :: ls.drop (i + 1) := by
        rw [List.drop_eq_getElem_cons hi2]
        congr 1
        rw [List.getElem?_eq_getElem hi2] at hp; cases hp; rfl
      have fe : firstI (p :: ls.drop (i + 1)) ((m : Int) - us.sum) = (if (m : Int) - us.sum - sumHi (ls.drop (i + 1)) > p.1 then (m : Int) - us.sum - sumHi (ls.drop (i + 1)) else p.1) :: firstI (ls.drop (i + 1)) ((m : Int) - us.sum - (if (m : Int) - us.sum - sumHi (ls.drop (i + 1)) > p.1 then (m : Int) - us.sum - sumHi (ls.drop (i + 1)) else p.1)) := rfl
      rw [dr, fe] at hf
      have sh : ((ls.drop (i + 1)).map Prod.snd).sum = sumHi (ls.drop (i + 1)) := rfl
      have mx : ∀ (u v : Int) (st : Sto) (X : XP) (P : W → Sto → Prop), Ok (fMax2 [.int u, .int v] st) X P = P (.int (if v > u then v else u)) st := fun u v st X P => rfl
      have ix : ∀ (X : XP) (P : W → Sto → Prop), Ok (wIx (.ref c.length) (.int (i : Nat)) (C (c1 ++ Cell.lst (us.map .int) :: (g ++ G)))) X P = P (prW p) (C (c1 ++ Cell.lst (us.map .int) :: (g ++ G))) := fun X P => v_ix (gB _) (by
        rw [atI_in (by omega) (by rw [List.length_map]; omega), Int.toNat_natCast, List.getElem?_map, hp]; rfl)
      have ap := fun v => app_int (c := c1) (g := g ++ G) (us := us) (v := v) (by omega)
      exists s5, sh, ix, pr0, mx, k_eMt, isL_st (c := c1) (g := g ++ G) (us := us.map .int), kk (ap _)
      refine ⟨us ++ [if (m : Int) - us.sum - sumHi (ls.drop (i + 1)) > p.1 then (m : Int) - us.sum - sumHi (ls.drop (i + 1)) else p.1], g ++ G, _, _, _, _, _, rfl, rfl, by rw [List.length_append, hu]; rfl, ?_⟩
      rw [List.append_assoc, List.sum_append]
      refine Eq.trans ?_ hf
      congr 1
      generalize (if (m : Int) - us.sum - sumHi (ls.drop (i + 1)) > p.1 then (m : Int) - us.sum - sumHi (ls.drop (i + 1)) else p.1) = t
      have e : (m : Int) - (us.sum + [t].sum) = m - us.sum - t := by simp only [List.sum_cons, List.sum_nil]; omega
      rw [e]; rfl
  · rintro l st ⟨us, g, l5, l6, l7, l8, l9, rfl, rfl, hu, hf⟩
    rw [up_len, ← hll, List.drop_length] at hf
    have hf : us = firstI ls (m : Nat) := by rw [← hf]; exact (List.append_nil us).symm
    exists k_loc
    rw [v_tup c_seq, hf, ← hc1]
    simp only [List.append_assoc]
    rw [c_trim (firstI_pure _)]
    exact ⟨rfl, rfl⟩
end
end LW

set_option Elab.async false
set_option linter.all false
set_option maxRecDepth 100000
set_option maxHeartbeats 4000000
namespace LW
open PySem PySem.W RB L2
local macro_rules | `(tactic| exists $es,*) => `(tactic| simp (config := {decide := false, implicitDefEqProofs := false, maxSteps := 1000000}) only [k_ok, k_exc, k_err, k_ite, k_iteS, k_nx, k_rt, k_loc, k_lit, k_nil, k_cons, k_tup, k_lst, k_bin, k_eB, k_eU, k_call, k_tru, k_not, k_and, k_or, k_if, k_eAnd, k_eOr, k_eNot, k_val, k_chain, k_sNil, k_sSeq, k_sSet, tgName, tgCons, tgNil, Option.bind_some, k_sDrop, k_sRet, k_sRetN, k_sIf, k_sBreak, k_sCont, k_sFor, k_sRaise, k_sTry, k_defn, k_rng1, k_comp,
  v_add, v_sub, v_mul, v_mod, v_div, v_lt, v_le, v_gt, v_ge, v_eq, v_ne, v_neg, v_int, v_min,
  List.map_cons, List.map_nil, List.length_cons, List.length_nil, List.replicate_succ, List.replicate_zero, List.cons_append, List.nil_append, List.append_nil, List.getElem?_cons_succ, List.getElem?_cons_zero, List.set_cons_succ, List.set_cons_zero,
  Nat.reduceAdd, Nat.reduceSub, Nat.zero_add, decide_eq_true_eq, Bool.not_eq_true', decide_eq_false_iff_not, Bool.true_eq_false, Bool.false_eq_true, if_true, if_false, ite_true, ite_false, ite_self, reduceIte, Nat.reduceLeDiff, true_and, and_true, not_true_eq_false, not_false_eq_true, decide_true, decide_false, Bool.not_true, Bool.not_false, $[$es:term],*])
section
variable {c g : List Cell} {X : XP} {P : W → Sto → Prop} {k s : Rat} {n : Nat} {w x y z v : W} {row : List (Option Rat)} {p q : Rat}
/-- a fraction as a sequence of its two numbers -/
def SqF (c : List Cell) (q : Rat) (w : W) : Prop := seqOf (C c) w = some [.int q.num, .int (q.den : Nat)]
theorem SqF.app (h : SqF c q w) (g : List Cell) : SqF (c ++ g) q w := seq_app h g
theorem SqF.fr (c : List Cell) (q : Rat) : SqF c q (frW q) := rfl
theorem SqF.i0 (h : SqF c q w) (X : XP) (P : W → Sto → Prop) : Ok (wIx w (.int 0) (C c)) X P = P (.int q.num) (C c) := v_ix h rfl
theorem SqF.i1 (h : SqF c q w) (X : XP) (P : W → Sto → Prop) : Ok (wIx w (.int 1) (C c)) X P = P (.int (q.den : Nat)) (C c) := v_ix h rfl
theorem SqF.notnon (h : SqF c q w) : w ≠ .non := fun e => by subst e; cases h
theorem isfr_v (h : SqF c q w) : F_is_fraction [w] (C c) = .ok (.bl true) (C c) := by
  refine run_eq ?_
  have hd : (0 : Int) < (q.den : Nat) := by have := q.den_pos; omega
  have ln : ∀ (X : XP) (P : W → Sto → Prop), Ok (fLen [w] (C c)) X P = P (.int 2) (C c) := fun X P => lenS h X P
  have t2 : ∀ (t : Tgs) (l : Lo), tgTup 2 t w l (C c) = t [.int q.num, .int (q.den : Nat)] l (C c) := fun t l => tup2 h
  have gg : ∀ (X : XP) (P : W → Sto → Prop), Ok (fGcd [.int q.num, .int (q.den : Nat)] (C c)) X P = P (.int ((1 : Nat) : Int)) (C c) := fun X P => by
    show P (.int ((Nat.gcd q.num.natAbs (Int.natAbs (q.den : Nat)) : Nat) : Int)) (C c) = _
    rw [Int.natAbs_natCast, fr_coprime]
  have e1 : (((1 : Nat) : Int) = 1) = True := eq_true rfl
  unfold F_is_fraction
  exists kk (seq_ok (c := c) h), ln, t2, kk (int_ok (c := c) q.num), kk (int_ok (c := c) (q.den : Nat)), gg, hd, truth, Bool.not_true, not_true_eq_false, e1, decide_true
  rw [c_trim0 rfl]
  exact ⟨rfl, rfl⟩
theorem amount_v (h : SqF c q w) : F_is_amount [w] (C c) = .ok (.bl (decide (0 ≤ q))) (C c) := by
  refine run_eq ?_
  unfold F_is_amount
  exists kk (isfr_v h), h.i0
  rw [c_trim0 rfl]
  refine ⟨?_, rfl⟩
  congr 1
  exact decide_eq_decide.mpr Rat.num_nonneg
set_option exponentiation.threshold 10000
theorem times_v (h : SqF c p w) (h2 : SqF c q v) (hp : Bq 4000 p) (hq : Bq 4000 q) : F_times [w, v] (C c) = .ok (frW (p * q)) (C c) := by
  refine run_eq ?_
  unfold F_times
  have f := fraction_ok (c := c) (a := p.num * q.num) (b := p.den * q.den) (Nat.mul_pos p.den_pos q.den_pos) (den_mul_lt hp hq)
  rw [← Rat.mul_def', Int.natCast_mul] at f
  exists h.i0, h.i1, h2.i0, h2.i1, mul_bd hp.1 hq.1, mul_bd (bdn hp) (bdn hq), kk f
  rw [c_trim0 (fr_pure _)]
  exact ⟨rfl, rfl⟩
theorem plus_v (h : SqF c p w) (h2 : SqF c q v) (hp : Bq 4000 p) (hq : Bq 4000 q) : F_plus [w, v] (C c) = .ok (frW (p + q)) (C c) := by
  refine run_eq ?_
  unfold F_plus
  have f := fraction_ok (c := c) (a := p.num * q.den + q.num * p.den) (b := p.den * q.den) (Nat.mul_pos p.den_pos q.den_pos) (den_mul_lt hp hq)
  rw [← Rat.add_def', Int.natCast_mul] at f
  exists h.i0, h.i1, h2.i0, h2.i1, mul_bd hp.1 (bdn hq), mul_bd hq.1 (bdn hp), mul_bd (bdn hp) (bdn hq), kk f
  rw [c_trim0 (fr_pure _)]
  exact ⟨rfl, rfl⟩
theorem over_v (h : SqF c p w) (h0 : 0 < p) : F_one_over [w] (C c) = .ok (frW p⁻¹) (C c) := by
  refine run_eq ?_
  unfold F_one_over
  exists h.i0, h.i1, (by decide : (2 : Nat) ≤ 1000)
  rw [c_trim0 rfl, frW_inv h0]
  exact ⟨rfl, rfl⟩
theorem ispay_v (h : PoolQ k s) (hx : seqOf (C c) x = some [frW k, frW s, .int (n : Nat)]) {D : Rat} (hw : SqF c D w) (hD : PayQ s D) : F__is_payment [x, w] (C c) = .ok (.bl true) (C c) := by
  refine run_eq ?_
  unfold F__is_payment
  have i1 : ∀ (X : XP) (P : W → Sto → Prop), Ok (wIx x (.int 1) (C c)) X P = P (frW s) (C c) := fun X P => v_ix hx rfl
  have a := amount_v hw
  rw [decide_eq_true hD.d0] at a
  have t := times_v hw (SqF.fr c s⁻¹) (hD.b.mono (by decide)) ((bd_inv h.bs (by decide)).mono (by decide : 7 ≤ 4000))
  have e1 : (((D * s⁻¹).den : Nat) : Int) = 1 := by rw [hD.m]; rfl
  exists kk a, i1, kk (over_ok (c := c) h.s0), kk t, i1_fr, e1
  rw [c_trim0 rfl]
  exact ⟨rfl, rfl⟩
/-- the number that a sequence of two numbers is -/
def valOf (c : List Cell) (w : W) : Option Rat := match seqOf (C c) w with
  | some [.int a, .int b] => some (mkRat a b.toNat)
  | _ => none
theorem SqF.val (h : SqF c q w) : valOf c w = some q := by
  unfold valOf
  rw [show seqOf (C c) w = some [.int q.num, .int (q.den : Nat)] from h]
  dsimp only
  rw [Int.toNat_natCast, Rat.mkRat_self]
theorem val_non : valOf c .non = none := rfl
/-- a row whose payments are sequences of two numbers -/
structure RowV (c : List Cell) (ws : List W) (row : List (Option Rat)) : Prop where
  v : ws.map (valOf c) = row
  k : ∀ w ∈ ws, w = .non ∨ (W.low c.length w = true ∧ ∃ D, SqF c D w)
theorem RowV.len {ws : List W} (h : RowV c ws row) : ws.length = row.length := by rw [← h.v, List.length_map]
theorem RowV.mem {ws : List W} (h : RowV c ws row) (hw : w ∈ ws) : w = .non ∨ (W.low c.length w = true ∧ ∃ D, SqF c D w ∧ some D ∈ row) := by
  rcases h.k w hw with e | ⟨a, D, b⟩
  · exact .inl e
  · refine .inr ⟨a, D, b, ?_⟩
    rw [← h.v]
    exact List.mem_map.mpr ⟨w, hw, b.val⟩
theorem cl_low {ws : List W} {s : Src} (hat : ∀ us i, s.at (C (c ++ .lst us :: [])) i = some ws[i]?) {tg : Tg} {own : List Nat} {cond : Bv} {elt : Ev} {l : Lo} {P : Unit → Sto → Prop} (cb : W → Bool) (ev : W → W) (hw : ws.length < 1000000)
    (hs : ∀ w ∈ ws, ∃ l1, (∀ st, tg w (wipeL l own) st = some l1) ∧ (∀ us, cond l1 (C (c ++ .lst us :: [])) = .ok (cb w) (C (c ++ .lst us :: []))) ∧ (cb w = true → W.low c.length (ev w) = true ∧ ∀ us, elt l1 (C (c ++ .lst us :: [])) = .ok (ev w) (C (c ++ .lst us :: []))))
    (h : P () (C (c ++ .lst ((ws.filter cb).map ev) :: []))) : Ok (cLoop s tg own cond (cApp elt c.length) l 1000000 0 (C (c ++ .lst [] :: []))) X P := by
  refine cloop_fix ws (fun i acc st => acc = ((ws.take i).filter cb).map ev ∧ st = C (c ++ .lst acc :: [])) (fun i _ _ h => by rw [h.2]; exact hat _ i) ?_ ?_ 1000000 0 [] _ (by omega) (Nat.zero_le _) ⟨by simp, rfl⟩
  · rintro i w acc st hw2 ⟨rfl, rfl⟩
    have hi := (List.getElem?_eq_some_iff.mp hw2).1
    have tk : ws.take (i + 1) = ws.take i ++ [w] := by rw [List.take_succ, hw2]; rfl
    obtain ⟨l1, h1, h2, h3⟩ := hs w (List.mem_of_getElem? hw2)
    refine ⟨l1, h1 _, ok_of (h2 _) ?_⟩
    cases hb : cb w with
    | false =>
      rw [if_neg (by decide)]
      have : ((ws.take (i + 1)).filter cb).map ev = ((ws.take i).filter cb).map ev := by rw [tk, List.filter_append, List.filter_cons, if_neg (by rw [hb]; decide)]; simp
      exact ⟨this.symm, by first | rfl | rw [this]⟩
    | true =>
      rw [if_pos rfl]
      obtain ⟨h4, h5⟩ := h3 hb
      have e : ((ws.take (i + 1)).filter cb).map ev = ((ws.take i).filter cb).map ev ++ [ev w] := by rw [tk, List.filter_append, List.filter_cons, if_pos hb]; simp
      have hl : (((ws.take i).filter cb).map ev).length ≤ i := by
        rw [List.length_map]
        exact Nat.le_trans (List.length_filter_le _ _) (by rw [List.length_take]; exact Nat.min_le_left _ _)
      refine ok_of (h5 _) ⟨((ws.take i).filter cb).map ev, c_get, by omega, e.symm, ?_⟩
      rw [h4]
      exact c_put
  · rintro acc st ⟨rfl, rfl⟩
    rw [List.take_length]
    exact h
theorem row_v (h : PoolQ k s) (h4 : n ≤ 4) (hx : seqOf (C c) x = some [frW k, frW s, .int (n : Nat)]) {ws : List W} (hy : seqOf (C c) y = some ws) (hR : RowV c ws row) (hl : row.length = n) (hr : ∀ D, some D ∈ row → PayQ s D) (hne : row.filterMap id ≠ []) : F__need_row [x, y] (C c) = .ok .non (C c) := by
  refine run_eq ?_
  unfold F__need_row
  have hwl := hR.len
  have ln : ∀ (X : XP) (P : W → Sto → Prop), Ok (fLen [y] (C c)) X P = P (.int (n : Nat)) (C c) := fun X P => by rw [lenS hy, hwl, hl]
  have i2 : ∀ (X : XP) (P : W → Sto → Prop), Ok (wIx x (.int 2) (C c)) X P = P (.int (n : Nat)) (C c) := fun X P => v_ix hx rfl
  obtain ⟨sr, ⟨sat, satx⟩, vs⟩ := vseqX (c := c) (i := 1) (l := [some x, some y, none, none]) hy rfl
  exists kk (seq_ok (c := c) hy), ln, i2, truth, vs
  refine cl_low (c := c) (ws := ws) (fun us i => satx _ i) (fun w => !isNon w) (fun w => w) (by omega) (fun w hw => ?_) ?_
  · refine ⟨_, fun _ => rfl, fun us => run_eq ?_, fun hb => ⟨?_, fun us => run_eq ?_⟩⟩
    · have v : ∀ (st : Sto) (X : XP) (P : W → Sto → Prop), Ok (wNotN w .non st) X P = P (.bl (!isNon w)) st := fun st X P => by cases w <;> rfl
      exists wipeL, v
    · rcases hR.k w hw with rfl | ⟨a, _⟩
      · rfl
      · exact a
    · exists wipeL
  · rw [List.map_id']
    have hfl : (ws.filter fun w => !isNon w).length ≤ 4 := Nat.le_trans (List.length_filter_le _ _) (by omega)
    have mem : ∀ w ∈ ws.filter fun w => !isNon w, ∃ D, SqF c D w ∧ some D ∈ row := fun w hw => by
      obtain ⟨a, b⟩ := List.mem_filter.mp hw
      rcases hR.mem a with rfl | ⟨_, D, q1, q2⟩
      · cases b
      · exact ⟨D, q1, q2⟩
    have hfp : (ws.filter fun w => !isNon w) ≠ [] := fun e => by
      obtain ⟨D, hD⟩ := List.exists_mem_of_ne_nil _ hne
      have hs := mem_some hD
      rw [← hR.v] at hs
      obtain ⟨w, hw, e2⟩ := List.mem_map.mp hs
      have : w ∈ ws.filter fun w => !isNon w := List.mem_filter.mpr ⟨hw, by cases w <;> first | rfl | (rw [val_non] at e2; cases e2)⟩
      rw [e] at this
      cases this
    generalize (ws.filter fun w => !isNon w) = fs at hfl mem hfp ⊢
    have hfp := List.length_pos_iff.mpr hfp
    have gl : RB.getL (C (c ++ .lst fs :: [])) c.length = some fs := by unfold RB.getL; rw [c_get]
    have lf : ∀ (X : XP) (P : W → Sto → Prop), Ok (fLen [.ref c.length] (C (c ++ .lst fs :: []))) X P = P (.int (fs.length : Nat)) (C (c ++ .lst fs :: [])) := fun X P => lenS (x := .ref c.length) gl X P
    have l0 : (((fs.length : Nat) : Int) = 0) = False := eq_false (by omega)
    exists lf, l0, k_vSeq
    rw [gl]
    dsimp only
    have push : (C (c ++ .lst fs :: [])).push (.lst []) = C ((c ++ .lst fs :: []) ++ .lst [] :: []) := rfl
    rw [push]
    refine cl_map (c := c ++ .lst fs :: []) (ws := fs) (fun us i => live_at c_get i) (fun _ => .bl true) (by omega) (fun w hw => ?_) ?_
    · obtain ⟨D, q1, q2⟩ := mem w hw
      refine ⟨_, fun _ => rfl, rfl, fun us => run_eq ?_⟩
      have ip := ispay_v (c := (c ++ .lst fs :: []) ++ .lst us :: []) h (seq_app (seq_app hx _) _) ((q1.app _).app _) (hr D q2)
      exists wipeL, kk ip
    · have at' := all_true (c := c ++ .lst fs :: []) fs
      exists at', truth
      rw [List.append_assoc, c_trim rfl]
      exact ⟨rfl, rfl⟩
theorem bound_v (h : PoolQ k s) (hx : seqOf (C c) x = some [frW k, frW s, .int (n : Nat)]) {D : Rat} (hw : SqF c D w) (hD : PayQ s D) : F__bound [x, w] (C c) = .ok (boundW k s (some D)) (C c) := by
  refine run_eq ?_
  unfold F__bound
  have i1 : ∀ (X : XP) (P : W → Sto → Prop), Ok (wIx x (.int 1) (C c)) X P = P (frW s) (C c) := fun X P => v_ix hx rfl
  have p1 := plus_v hw (SqF.fr c s) (hD.b.mono (by decide)) (h.bs.mono (by decide : 7 ≤ 4000))
  have o1 := over_ok (c := c) (ds_pos h hD.d0)
  have t1 := times_ok (c := c) (h.br.mono (by decide)) ((bd_inv (bd_add hD.b h.bs) (by decide)).mono (by decide : 88 ≤ 4000))
  by_cases h0 : D = 0
  · have n0 : (D.num = 0) = True := eq_true (Rat.num_eq_zero.mpr h0)
    exists kk (returned_ok (c := c) h hx), i1, kk p1, kk o1, kk t1, hw.i0, n0, (by decide : (2 : Nat) ≤ 1000)
    rw [c_trim0 rfl]
    refine ⟨?_, rfl⟩
    show _ = W.tup [frW (lowQ k s D), frW (highQ k D)]
    unfold highQ
    rw [if_pos h0]; rfl
  · have n0 : (D.num = 0) = False := eq_false fun e => h0 (Rat.num_eq_zero.mp e)
    have hp : 0 < D := Rat.lt_of_le_of_ne hD.d0 (Ne.symm h0)
    have o2 := over_v hw hp
    have t2 := times_ok (c := c) (h.br.mono (by decide)) ((bd_inv hD.b (by decide)).mono (by decide : 80 ≤ 4000))
    have bt : Bq 4000 ((1 - k) * D⁻¹) := (bd_mul h.br (bd_inv hD.b (by decide))).mono (by decide)
    have push : (C c).push (.lst [.tup [.int 1, .int 1], frW ((1 - k) * D⁻¹)]) = C (c ++ .lst [.tup [.int 1, .int 1], frW ((1 - k) * D⁻¹)] :: []) := rfl
    have le := least_ok (c := c ++ .lst [.tup [.int 1, .int 1], frW ((1 - k) * D⁻¹)] :: []) (x := .ref c.length) (a := 1) (xs := [(1 - k) * D⁻¹]) c_seq (by rw [List.length_singleton]; decide) (fun q hq => by
      rcases List.mem_cons.mp hq with rfl | hq
      · exact b1
      · rw [List.mem_singleton.mp hq]; exact bt)
    exists kk (returned_ok (c := c) h hx), i1, kk p1, kk o1, kk t1, hw.i0, n0, (by decide : (2 : Nat) ≤ 1000), kk o2, kk t2, push, kk le
    rw [c_trim rfl]
    refine ⟨?_, rfl⟩
    show _ = W.tup [frW (lowQ k s D), frW (highQ k D)]
    unfold highQ
    rw [if_neg h0]; rfl
theorem bounds_v (h : PoolQ k s) (hx : seqOf (C c) x = some [frW k, frW s, .int (n : Nat)]) {ws : List W} (hy : seqOf (C c) y = some ws) (hR : RowV c ws row) (hl : row.length ≤ 4) (hr : ∀ D, some D ∈ row → PayQ s D) : F__bounds [x, y] (C c) = .ok (.ref c.length) (C (c ++ .lst (row.map (boundW k s)) :: [])) := by
  refine run_eq ?_
  unfold F__bounds
  have hwl := hR.len
  obtain ⟨sr, ⟨sat, satx⟩, vs⟩ := vseqX (c := c) (i := 1) (l := [some x, some y, none]) hy rfl
  exists vs
  refine cl_map (c := c) (ws := ws) (fun us i => satx _ i) (fun w => boundW k s (valOf c w)) (by omega) (fun w hw => ?_) ?_
  · rcases hR.mem hw with rfl | ⟨_, D, q1, q2⟩
    · refine ⟨_, fun _ => rfl, rfl, fun us => run_eq ?_⟩
      have v : ∀ (st : Sto) (X : XP) (P : W → Sto → Prop), Ok (wIsN .non .non st) X P = P (.bl true) st := fun st X P => rfl
      have vn : boundW k s (valOf c .non) = .non := rfl
      exists wipeL, v, vn
    · refine ⟨_, fun _ => rfl, bound_pure _ _ _, fun us => run_eq ?_⟩
      have v : ∀ (st : Sto) (X : XP) (P : W → Sto → Prop), Ok (wIsN w .non st) X P = P (.bl false) st := fun st X P => by
        have := q1.notnon
        cases w <;> first | rfl | exact absurd rfl this
      have b := bound_v (c := c ++ .lst us :: []) h (seq_app hx _) (q1.app _) (hr D q2)
      exists wipeL, v, kk b
      rw [q1.val]
  · have e : ws.map (fun w => boundW k s (valOf c w)) = row.map (boundW k s) := by rw [← hR.v, List.map_map]; rfl
    rw [e]
    have := c_trimL (c := c) (g := [Cell.lst (row.map (boundW k s))]) (j := 0) (P := fun b t => b = W.ref c.length ∧ t = C (c ++ .lst (row.map (boundW k s)) :: [])) (X := nX) rfl (pures_map _ (bound_pure k s) row)
    exact (show _ = _ from this).mpr ⟨rfl, rfl⟩
theorem filt_boundN (k s : Rat) : ∀ row : List (Option Rat), ((row.map (boundW k s)).filter fun w => !isNon w) = (row.filterMap id).map fun D => pairW (lowQ k s D) (highQ k D)
  | [] => rfl
  | none :: r => by
    rw [List.map_cons, List.filterMap_cons, List.filter_cons, if_neg (by simp [boundW, isNon])]
    exact filt_boundN k s r
  | some D :: r => by
    rw [List.map_cons, List.filterMap_cons, List.filter_cons, if_pos (by simp [boundW, isNon])]
    show _ = pairW _ _ :: _
    rw [← filt_boundN k s r]; rfl
theorem spread_g (h : PoolQ k s) (h1 : 1 ≤ n) (h4 : n ≤ 4) (hx : seqOf (C c) x = some [frW k, frW s, .int (n : Nat)]) {row : List (Option Rat)} (hrow : F__need_row [x, y] (C c) = .ok .non (C c)) (hbo : F__bounds [x, y] (C c) = .ok (.ref c.length) (C (c ++ .lst (row.map (boundW k s)) :: []))) (hl : row.length = n) (hr : ∀ D, some D ∈ row → PayQ s D) (hne : row.filterMap id ≠ []) :
    F_spread [x, y] (C c) = .ok (pairW (sumQ (lowsQ k s row)) (sumQ (highsQ k row))) (C c) := by
  refine run_eq ?_
  unfold F_spread
  have hfl : (row.filterMap id).length ≤ 4 := Nat.le_trans (List.length_filterMap_le _ _) (by omega)
  have bo := hbo
  have gl : RB.getL (C (c ++ .lst (row.map (boundW k s)) :: [])) c.length = some (row.map (boundW k s)) := by unfold RB.getL; rw [c_get]
  exists kk (need_ok (c := c) h h1 h4 hx), kk hrow, k_vSeq, kk bo, gl
  have push1 : (C (c ++ .lst (row.map (boundW k s)) :: [])).push (.lst []) = C ((c ++ .lst (row.map (boundW k s)) :: []) ++ .lst [] :: []) := rfl
  rw [push1]
  refine cl_pure (c := c ++ .lst (row.map (boundW k s)) :: []) (ws := row.map (boundW k s)) (fun us i => live_at c_get i) (fun w => !isNon w) (fun w => w) (by rw [List.length_map]; omega) (fun w hw => ?_) ?_
  · obtain ⟨o, ho, rfl⟩ := List.mem_map.mp hw
    refine ⟨_, fun _ => rfl, fun us => run_eq ?_, fun hb => ⟨bound_pure k s o, fun us => run_eq ?_⟩⟩
    · cases o with
      | none =>
        have v : ∀ (st : Sto) (X : XP) (P : W → Sto → Prop), Ok (wNotN (boundW k s none) .non st) X P = P (.bl false) st := fun st X P => rfl
        exists wipeL, v
        rfl
      | some D =>
        have v : ∀ (st : Sto) (X : XP) (P : W → Sto → Prop), Ok (wNotN (boundW k s (some D)) .non st) X P = P (.bl true) st := fun st X P => rfl
        exists wipeL, v
        rfl
    · exists wipeL
  · rw [List.map_id', filt_boundN]
    generalize hB : c ++ .lst (row.map (boundW k s)) :: [] = B
    have glB : RB.getL (C (B ++ .lst ((row.filterMap id).map fun D => pairW (lowQ k s D) (highQ k D)) :: [])) B.length = some ((row.filterMap id).map fun D => pairW (lowQ k s D) (highQ k D)) := by unfold RB.getL; rw [c_get]
    exists k_vSeq, glB
    have push2 : (C (B ++ .lst ((row.filterMap id).map fun D => pairW (lowQ k s D) (highQ k D)) :: [])).push (.lst []) = C ((B ++ .lst ((row.filterMap id).map fun D => pairW (lowQ k s D) (highQ k D)) :: []) ++ .lst [] :: []) := rfl
    rw [push2]
    have lowb : ∀ q ∈ lowsQ k s row, Bq 100 q := fun q hq => by
      obtain ⟨D, hD, rfl⟩ := List.mem_map.mp hq
      exact low_bq h (hr D (mem_some hD))
    have highb : ∀ q ∈ highsQ k row, Bq 100 q := fun q hq => by
      obtain ⟨D, hD, rfl⟩ := List.mem_map.mp hq
      exact high_bq h (hr D (mem_some hD))
    have lowl : (lowsQ k s row).length ≤ 4 := by unfold lowsQ; rw [List.length_map]; exact hfl
    have highl : (highsQ k row).length ≤ 4 := by unfold highsQ; rw [List.length_map]; exact hfl
    have fstM : ((row.filterMap id).map fun D => pairW (lowQ k s D) (highQ k D)).map pA = (lowsQ k s row).map frW := by
      unfold lowsQ; rw [List.map_map, List.map_map]; rfl
    have sndM : ((row.filterMap id).map fun D => pairW (lowQ k s D) (highQ k D)).map pB = (highsQ k row).map frW := by
      unfold highsQ; rw [List.map_map, List.map_map]; rfl
    refine cl_map (c := B ++ .lst ((row.filterMap id).map fun D => pairW (lowQ k s D) (highQ k D)) :: []) (ws := (row.filterMap id).map fun D => pairW (lowQ k s D) (highQ k D)) (fun us i => live_at c_get i) pA (by rw [List.length_map]; omega) (fun w hw => ?_) ?_
    · obtain ⟨D, hD, rfl⟩ := List.mem_map.mp hw
      refine ⟨_, fun _ => rfl, rfl, fun us => run_eq ?_⟩
      exists wipeL
      rfl
    · rw [fstM]
      have tl := total_ok (c := (B ++ .lst ((row.filterMap id).map fun D => pairW (lowQ k s D) (highQ k D)) :: []) ++ .lst ((lowsQ k s row).map frW) :: []) (x := .ref (B ++ Cell.lst ((row.filterMap id).map fun D => pairW (lowQ k s D) (highQ k D)) :: []).length) (xs := lowsQ k s row) c_seq (by omega) (fun q hq => (lowb q hq).mono (by decide)) (bq_take lowb (by have := Nat.mul_le_mul_right 101 lowl; omega))
      generalize hB2 : B ++ .lst ((row.filterMap id).map fun D => pairW (lowQ k s D) (highQ k D)) :: [] = B2 at tl ⊢
      have glB2 : RB.getL (C (B2 ++ .lst ((lowsQ k s row).map frW) :: [])) B.length = some ((row.filterMap id).map fun D => pairW (lowQ k s D) (highQ k D)) := by
        have := seq_app (x := .ref B.length) (ws := (row.filterMap id).map fun D => pairW (lowQ k s D) (highQ k D)) (c := B2) (by rw [← hB2]; exact glB) (.lst ((lowsQ k s row).map frW) :: [])
        exact this
      exists kk tl, k_vSeq, glB2
      have push3 : (C (B2 ++ .lst ((lowsQ k s row).map frW) :: [])).push (.lst []) = C ((B2 ++ .lst ((lowsQ k s row).map frW) :: []) ++ .lst [] :: []) := rfl
      rw [push3]
      have getB : (B2 ++ .lst ((lowsQ k s row).map frW) :: [])[B.length]? = some (.lst ((row.filterMap id).map fun D => pairW (lowQ k s D) (highQ k D))) := by
        rw [← hB2, List.append_assoc]
        exact c_get
      refine cl_map (c := B2 ++ .lst ((lowsQ k s row).map frW) :: []) (ws := (row.filterMap id).map fun D => pairW (lowQ k s D) (highQ k D)) (fun us i => live_at getB i) pB (by rw [List.length_map]; omega) (fun w hw => ?_) ?_
      · obtain ⟨D, hD, rfl⟩ := List.mem_map.mp hw
        refine ⟨_, fun _ => rfl, rfl, fun us => run_eq ?_⟩
        exists wipeL
        rfl
      · rw [sndM]
        have tl2 := total_ok (c := (B2 ++ .lst ((lowsQ k s row).map frW) :: []) ++ .lst ((highsQ k row).map frW) :: []) (x := .ref (B2 ++ Cell.lst ((lowsQ k s row).map frW) :: []).length) (xs := highsQ k row) c_seq (by omega) (fun q hq => (highb q hq).mono (by decide)) (bq_take highb (by have := Nat.mul_le_mul_right 101 highl; omega))
        exists kk tl2, (by decide : (2 : Nat) ≤ 1000)
        rw [← hB2, ← hB]
        simp only [List.append_assoc]
        rw [c_trim rfl]
        exact ⟨rfl, rfl⟩
theorem comes_g (h : PoolQ k s) (h1 : 1 ≤ n) (h4 : n ≤ 4) (hx : seqOf (C c) x = some [frW k, frW s, .int (n : Nat)]) {row : List (Option Rat)} (hrow : F__need_row [x, y] (C c) = .ok .non (C c)) (hbo : F__bounds [x, y] (C c) = .ok (.ref c.length) (C (c ++ .lst (row.map (boundW k s)) :: []))) (hl : row.length = n) (hr : ∀ D, some D ∈ row → PayQ s D) (hne : row.filterMap id ≠ []) :
    F_comes [x, y] (C c) = .ok (.bl (decide (sumQ (lowsQ k s row) < 1) && !decide (sumQ (highsQ k row) < 1))) (C c) := by
  refine run_eq ?_
  unfold F_comes
  have hfl : (row.filterMap id).length ≤ 4 := Nat.le_trans (List.length_filterMap_le _ _) (by omega)
  have lowb : Bq 4000 (sumQ (lowsQ k s row)) := by
    have : ∀ q ∈ lowsQ k s row, Bq 100 q := fun q hq => by
      obtain ⟨D, hD, rfl⟩ := List.mem_map.mp hq
      exact low_bq h (hr D (mem_some hD))
    refine (bq_sum this).mono ?_
    have : (lowsQ k s row).length ≤ 4 := by unfold lowsQ; rw [List.length_map]; exact hfl
    have := Nat.mul_le_mul_right 101 this
    omega
  have highb : Bq 4000 (sumQ (highsQ k row)) := by
    have : ∀ q ∈ highsQ k row, Bq 100 q := fun q hq => by
      obtain ⟨D, hD, rfl⟩ := List.mem_map.mp hq
      exact high_bq h (hr D (mem_some hD))
    refine (bq_sum this).mono ?_
    have : (highsQ k row).length ≤ 4 := by unfold highsQ; rw [List.length_map]; exact hfl
    have := Nat.mul_le_mul_right 101 this
    omega
  have t2 : ∀ (t : Tgs) (l : Lo) (st : Sto), tgTup 2 t (pairW (sumQ (lowsQ k s row)) (sumQ (highsQ k row))) l st = t [frW (sumQ (lowsQ k s row)), frW (sumQ (highsQ k row))] l st := fun t l st => rfl
  have bl1 := below_ok (c := c) lowb b1
  have bl2 := below_ok (c := c) highb b1
  rw [one_fr] at bl1 bl2
  exists kk (spread_g (c := c) h h1 h4 hx hrow hbo hl hr hne), t2, kk bl1, kk bl2
  by_cases hb : sumQ (lowsQ k s row) < 1
  · exists hb
    rw [c_trim0 rfl]
    exact ⟨by simp, rfl⟩
  · exists hb
    rw [c_trim0 rfl]
    exact ⟨by simp, rfl⟩
theorem least_g (h : PoolQ k s) (h1 : F_comes [x, y] (C c) = .ok (.bl true) (C c)) (hbo : F__bounds [x, y] (C c) = .ok (.ref c.length) (C (c ++ .lst (row.map (boundW k s)) :: []))) (hl : row.length ≤ 4) (hr : ∀ D, some D ∈ row → PayQ s D) {Q : Res W → Prop}
    (some_ : ∀ m, leastM k s row 5000 = some m → Q (.ok (.tup ((firstI (limsOf k s row m) (m : Nat)).map .int)) (C c))) (none_ : leastM k s row 5000 = none → Q (.exc 1 (.str "stakes") (C c))) : Q (F_least_stakes [x, y] (C c)) := by
  have bo := hbo
  suffices hh : Ok (F_least_stakes [x, y] (C c)) (fun i p st => leastM k s row 5000 = none ∧ i = 1 ∧ p = .str "stakes" ∧ st = C c) fun a st => ∃ m, leastM k s row 5000 = some m ∧ a = .tup ((firstI (limsOf k s row m) (m : Nat)).map .int) ∧ st = C c by
    cases e : F_least_stakes [x, y] (C c) with
    | ok a st => rw [e] at hh; obtain ⟨m, e1, rfl, rfl⟩ := hh; exact some_ m e1
    | exc i p st => rw [e] at hh; obtain ⟨e1, rfl, rfl, rfl⟩ := hh; exact none_ e1
    | err => rw [e] at hh; exact hh.elim
  unfold F_least_stakes
  have r2 : (-1000000 ≤ (1 : Int) ∧ (1 : Int) ≤ 1000000) ∧ -1000000 ≤ (5000 + 1 : Int) ∧ (5000 + 1 : Int) ≤ 1000000 := by decide
  have t5 : (5000 + 1 - 1 : Int).toNat = 5000 := rfl
  exists kk h1, truth, kk bo, k_rng2, r2, t5
  generalize hc1 : c ++ Cell.lst (row.map (boundW k s)) :: [] = c1
  have hb : c1[c.length]? = some (.lst (row.map (boundW k s))) := by rw [← hc1]; exact c_get
  have cut : ∀ g : List Cell, (C (c1 ++ g)).cut c.length = C c := fun g => by
    rw [← hc1, List.append_assoc]; exact x_cutA
  refine loop_fix (upFrom 1 5000) (fun i l st => ∃ (g : List Cell) (a b d : Option W), l = [some x, some y, some (.ref c.length), a, b, d] ∧ st = C (c1 ++ g) ∧ ∀ j, 1 ≤ j → j ≤ i → canB (limsOf k s row j) (j : Nat) = false) (fun _ _ _ _ => rfl) ?_ ?_ 1000000 0 _ _ (by rw [up_len]; decide) (Nat.zero_le _) ⟨[], none, none, none, rfl, by rw [List.append_nil], fun j h1 h2 => by omega⟩
  · rintro i w l st hw ⟨g, a, b, d, rfl, rfl, hj⟩
    obtain ⟨hi, rfl⟩ := up_getA hw
    refine ⟨_, rfl, ?_⟩
    have e1 : (1 : Int) + (i : Nat) = ((i + 1 : Nat) : Int) := by omega
    rw [e1]
    have hb2 : (c1 ++ g)[c.length]? = some (.lst (row.map (boundW k s))) := by
      rw [List.getElem?_append_left (List.getElem?_eq_some_iff.mp hb).1]; exact hb
    refine least_body h hl hr hb2 (m := i + 1) (by omega) (fun hc g2 => ?_) (fun hc g2 r4 => ?_)
    · have lm : leastM k s row 5000 = some (i + 1) := by
        cases e : leastM k s row 5000 with
        | none => rw [leastM_none e (i + 1) (by omega) (by omega)] at hc; cases hc
        | some m =>
          obtain ⟨q1, q2, q3, q4⟩ := leastM_some e
          rcases Nat.lt_trichotomy m (i + 1) with z | z | z
          · rw [hj m q1 (by omega)] at q3; cases q3
          · rw [z]
          · rw [q4 (i + 1) (by omega) z] at hc; cases hc
      show Ok (trim c.length _ (C ((c1 ++ g) ++ g2))) _ _
      rw [← hc1, List.append_assoc, List.append_assoc, c_trim (firstI_pure _)]
      exact ⟨i + 1, lm, rfl, rfl⟩
    · refine ⟨g ++ g2, _, _, _, rfl, by rw [List.append_assoc], fun j h1 h2 => ?_⟩
      rcases Nat.lt_or_eq_of_le h2 with q | rfl
      · exact hj j h1 (by omega)
      · exact hc
  · rintro l st ⟨g, a, b, d, rfl, rfl, hj⟩
    rw [up_len] at hj
    have lm : leastM k s row 5000 = none := by
      cases e : leastM k s row 5000 with
      | none => rfl
      | some m =>
        obtain ⟨q1, q2, q3, q4⟩ := leastM_some e
        rw [hj m q1 q2] at q3; cases q3
    have pu : W.pure (.str "stakes") = true := rfl
    exists lm
    rw [if_pos (by rfl), cut]
end
end LW

set_option Elab.async false
set_option linter.all false
set_option maxRecDepth 100000
set_option maxHeartbeats 4000000
namespace LW
open PySem PySem.W RB L2
local macro_rules | `(tactic| exists $es,*) => `(tactic| simp (config := {decide := false, implicitDefEqProofs := false, maxSteps := 1000000}) only [k_ok, k_exc, k_err, k_ite, k_iteS, k_nx, k_rt, k_loc, k_lit, k_nil, k_cons, k_tup, k_lst, k_bin, k_eB, k_eU, k_call, k_tru, k_not, k_and, k_or, k_if, k_eAnd, k_eOr, k_eNot, k_val, k_chain, k_sNil, k_sSeq, k_sSet, tgName, tgCons, tgNil, Option.bind_some, k_sDrop, k_sRet, k_sRetN, k_sIf, k_sBreak, k_sCont, k_sFor, k_sRaise, k_sTry, k_defn, k_rng1, k_comp,
  v_add, v_sub, v_mul, v_mod, v_div, v_lt, v_le, v_gt, v_ge, v_eq, v_ne, v_neg, v_int, v_min,
  List.map_cons, List.map_nil, List.length_cons, List.length_nil, List.replicate_succ, List.replicate_zero, List.cons_append, List.nil_append, List.append_nil, List.getElem?_cons_succ, List.getElem?_cons_zero, List.set_cons_succ, List.set_cons_zero,
  Nat.reduceAdd, Nat.reduceSub, Nat.zero_add, decide_eq_true_eq, Bool.not_eq_true', decide_eq_false_iff_not, Bool.true_eq_false, Bool.false_eq_true, if_true, if_false, ite_true, ite_false, ite_self, reduceIte, Nat.reduceLeDiff, true_and, and_true, not_true_eq_false, not_false_eq_true, decide_true, decide_false, Bool.not_true, Bool.not_false, $[$es:term],*])
section
variable {c g : List Cell} {X : XP} {P : W → Sto → Prop} {k s : Rat} {n : Nat} {w x y z v : W} {row : List (Option Rat)} {p q : Rat}
theorem trim_mark {c : List Cell} {k n : Nat} {w : W} (h : k < n) : trim n w ⟨c, some k⟩ = .ok w ⟨c, some k⟩ := by
  unfold trim
  rw [if_neg (by show ¬ decide (n ≤ k) = true; rw [decide_eq_true_eq]; omega)]
theorem leafM {d : Nat} {w : W} {t : Int} {k : Nat} (h : leaf w = true) (hk : k < c.length) : F__law_loose (d + 1) [w, .int t] ⟨c, some k⟩ = .ok w ⟨c, some k⟩ := by
  refine run_eq ?_
  unfold F__law_loose
  cases w with
  | tup _ => cases h
  | ref _ => cases h
  | non => exists k_isi, tnOf, ans_tuple, truth; rw [trim_mark hk]; exact ⟨rfl, rfl⟩
  | bl b => exists k_isi, tnOf, ans_tuple, truth; rw [trim_mark hk]; exact ⟨rfl, rfl⟩
  | int b => exists k_isi, tnOf, ans_tuple, truth; rw [trim_mark hk]; exact ⟨rfl, rfl⟩
  | str b => exists k_isi, tnOf, ans_tuple, truth; rw [trim_mark hk]; exact ⟨rfl, rfl⟩
theorem m_get {x : Cell} : (c ++ x :: g)[c.length]? = some x := c_get
theorem m_put {x y : Cell} {k : Nat} : (⟨c ++ x :: g, some k⟩ : Sto).put c.length y true = ⟨c ++ y :: g, some k⟩ := by
  show (⟨(c ++ x :: g).set c.length y, some k⟩ : Sto) = _
  rw [List.set_append_right _ _ (Nat.le_refl _), Nat.sub_self]; rfl
theorem two_mem {a b : Int} {i : Nat} {w : W} (h : [W.int a, .int b][i]? = some w) : leaf w = true ∧ W.low c.length w = true ∧ i < 2 := by
  have hm := List.mem_of_getElem? h
  have hi := (List.getElem?_eq_some_iff.mp h).1
  refine ⟨?_, ?_, hi⟩
  · rcases List.mem_cons.mp hm with rfl | hm
    · rfl
    · rw [List.mem_singleton.mp hm]; rfl
  · rcases List.mem_cons.mp hm with rfl | hm
    · rfl
    · rw [List.mem_singleton.mp hm]; rfl
theorem loose_two (a b : Int) {k : Nat} (hk : k < c.length) : F__law_loose 5 [.tup [.int a, .int b], .int 2] ⟨c, some k⟩ = .ok (.ref c.length) ⟨c ++ .lst [.int a, .int b] :: [], some k⟩ := by
  refine run_eq ?_
  unfold F__law_loose
  have tn : ∀ (l : List W) (st : Sto), tnOf st (.tup l) = some .tup := fun l st => rfl
  have vs : ∀ (a b d : Option W) (ws : List W) (st : Sto) (X : XP) (P : Src → Sto → Prop), Ok (vSeq (eLoc 0) [some (.tup ws), a, b, d] st) X P = P (.fix ws) st := fun a b d ws st X P => rfl
  have push : (⟨c, some k⟩ : Sto).push (.lst []) = ⟨c ++ .lst [] :: [], some k⟩ := rfl
  exists k_isi, tn, ans_tuple, truth, vs, push
  refine cloop_fix [.int a, .int b] (fun i acc st => acc = ([W.int a, .int b]).take i ∧ st = ⟨c ++ .lst acc :: [], some k⟩) (fun _ _ _ _ => rfl) ?_ ?_ 1000000 0 [] _ (by show 2 < 1000000 + 0; decide) (Nat.zero_le _) ⟨rfl, rfl⟩
  · rintro i w acc st hw ⟨rfl, rfl⟩
    obtain ⟨h1, h2, h3⟩ := two_mem (c := c) hw
    refine ⟨_, rfl, ?_⟩
    have lf := leafM (c := c ++ .lst (([W.int a, .int b]).take i) :: []) (d := 3) (t := 2 + 1) (k := k) h1 (by rw [List.length_append]; omega)
    exists wipeL, bYes, kk lf
    refine ⟨_, m_get, by rw [List.length_take]; exact Nat.lt_of_le_of_lt (Nat.min_le_left _ _) (by omega), ?_, ?_⟩
    · rw [List.take_succ, hw]; rfl
    · rw [h2]; exact m_put
  · rintro acc st ⟨rfl, rfl⟩
    have tp : (0 : Int) < 2 := by decide
    have e2 : ((2 : Int) % 2 = 0) = True := eq_true rfl
    exists tp, e2
    rw [trim_mark hk]
    exact ⟨rfl, rfl⟩
theorem loose_twoN (a b : Int) : F__law_loose 5 [.tup [.int a, .int b], .int 2] ⟨c, none⟩ = .ok (.ref c.length) ⟨c ++ .lst [.int a, .int b] :: [], none⟩ := by
  have h := loose_in (c := c) (d := 4) (ws := [.int a, .int b]) (t := 2) (by show 2 < 1000; decide) rfl (fun w hw us => by
    rcases List.mem_cons.mp hw with rfl | hw
    · exact loose_leaf rfl
    · rw [List.mem_singleton.mp hw]; exact loose_leaf rfl)
  rw [if_pos (by decide)] at h
  exact h
theorem loose_twoD (a b : Int) {d : Option Nat} (hk : ∀ k, d = some k → k < c.length) : F__law_loose 5 [.tup [.int a, .int b], .int 2] ⟨c, d⟩ = .ok (.ref c.length) ⟨c ++ .lst [.int a, .int b] :: [], d⟩ := by
  cases d with
  | none => exact loose_twoN a b
  | some k => exact loose_two a b (hk k rfl)
theorem leafD {d : Nat} {w : W} {t : Int} {m : Option Nat} (h : leaf w = true) (hk : ∀ k, m = some k → k < c.length) : F__law_loose (d + 1) [w, .int t] ⟨c, m⟩ = .ok w ⟨c, m⟩ := by
  cases m with
  | none => exact loose_leaf h
  | some k => exact leafM h (hk k rfl)
/-- a row as a tuple of lists that begin at the cell j -/
def accW : Nat → List (Option Rat) → List W
  | _, [] => []
  | j, none :: r => .non :: accW j r
  | j, some _ :: r => .ref j :: accW (j + 1) r
def cellF (D : Rat) : Cell := .lst [.int D.num, .int (D.den : Nat)]
def cellsF (row : List (Option Rat)) : List Cell := (row.filterMap id).map cellF
theorem acc_len : ∀ (j : Nat) (r : List (Option Rat)), (accW j r).length = r.length
  | _, [] => rfl
  | j, none :: r => by show (accW j r).length + 1 = _; rw [acc_len j r]; rfl
  | j, some _ :: r => by show (accW (j + 1) r).length + 1 = _; rw [acc_len (j + 1) r]; rfl
theorem acc_non : ∀ (j : Nat) (r : List (Option Rat)), accW j (r ++ [none]) = accW j r ++ [.non]
  | _, [] => rfl
  | j, none :: r => by show _ :: accW j (r ++ [none]) = _ :: accW j r ++ [_]; rw [acc_non j r]; rfl
  | j, some _ :: r => by show _ :: accW (j + 1) (r ++ [none]) = _ :: accW (j + 1) r ++ [_]; rw [acc_non (j + 1) r]; rfl
theorem acc_some (D : Rat) : ∀ (j : Nat) (r : List (Option Rat)), accW j (r ++ [some D]) = accW j r ++ [.ref (j + (r.filterMap id).length)]
  | _, [] => rfl
  | j, none :: r => by show _ :: accW j (r ++ [some D]) = _ :: accW j r ++ [_]; rw [acc_some D j r]; rfl
  | j, some E :: r => by
    show _ :: accW (j + 1) (r ++ [some D]) = _ :: accW (j + 1) r ++ [_]
    rw [acc_some D (j + 1) r]
    have : (List.filterMap id (some E :: r)).length = (r.filterMap id).length + 1 := rfl
    rw [this, Nat.add_right_comm, Nat.add_assoc]; rfl
theorem cells_non (r : List (Option Rat)) : cellsF (r ++ [none]) = cellsF r := by unfold cellsF; rw [List.filterMap_append]; simp
theorem cells_some (D : Rat) (r : List (Option Rat)) : cellsF (r ++ [some D]) = cellsF r ++ [cellF D] := by unfold cellsF; rw [List.filterMap_append]; simp
theorem cells_len (r : List (Option Rat)) : (cellsF r).length = (r.filterMap id).length := List.length_map ..
theorem acc_pure : ∀ (j : Nat) (r : List (Option Rat)), r.filterMap id ≠ [] → W.pures (accW j r) = false
  | _, [], h => absurd rfl h
  | j, none :: r, h => by show (true && W.pures (accW j r)) = false; rw [acc_pure j r (by simpa using h)]; rfl
  | j, some _ :: r, _ => rfl
theorem relo_non (st : Sto) (n : Nat) (r : List W) (ks : List Nat) : relo st n (.non :: r) ks = (match relo st n r ks with | some (vs, js) => some (.non :: vs, js) | none => none) := rfl
theorem relo_ref {st : Sto} {n k : Nat} {r us : List W} {ks : List Nat} (h : n ≤ k ∧ k ∉ ks) (hc : st.c[k]? = some (.lst us)) (hp : W.pures us = true) : relo st n (.ref k :: r) ks = (match relo st n r (ks ++ [k]) with | some (vs, js) => some (.ref (n + ks.length) :: vs, js) | none => none) := by
  show (if n ≤ k ∧ k ∉ ks then _ else none) = _
  rw [if_pos h, hc]
  dsimp only
  rw [if_pos hp]
  all_goals (generalize relo st n r (ks ++ [k]) = z; cases z <;> rfl)
theorem relo_row {st : Sto} {n : Nat} : ∀ (r : List (Option Rat)) (m : Nat) (ks : List Nat), ks.length = m → (∀ k ∈ ks, k < n + 1 + m) → (∀ (j : Nat) D, (r.filterMap id)[j]? = some D → st.c[n + 1 + m + j]? = some (cellF D)) →
    relo st n (accW (n + 1 + m) r) ks = some (accW (n + m) r, ks ++ List.range' (n + 1 + m) (r.filterMap id).length)
  | [], m, ks, _, _, _ => by show some (_, _) = some (_, _); rw [show List.range' (n + 1 + m) (List.filterMap id ([] : List (Option Rat))).length = [] from rfl, List.append_nil]; rfl
  | none :: r, m, ks, h1, h2, h3 => by
    show relo st n (.non :: accW (n + 1 + m) r) ks = _
    rw [relo_non, relo_row r m ks h1 h2 h3]; rfl
  | some D :: r, m, ks, h1, h2, h3 => by
    show relo st n (.ref (n + 1 + m) :: accW (n + 1 + m + 1) r) ks = _
    rw [relo_ref (us := [.int D.num, .int (D.den : Nat)]) ⟨by omega, fun h => by have := h2 _ h; omega⟩ (show st.c[n + 1 + m]? = some (.lst [.int D.num, .int (D.den : Nat)]) from h3 0 D rfl) rfl]
    have ih := relo_row (n := n) r (m + 1) (ks ++ [n + 1 + m]) (by rw [List.length_append, h1]; rfl) (fun k hk => by
      rcases List.mem_append.mp hk with hk | hk
      · have := h2 k hk; omega
      · rw [List.mem_singleton.mp hk]; omega) (fun j E hj => by
      have := h3 (j + 1) E hj
      rw [← this]; congr 1; omega)
    have e1 : n + 1 + (m + 1) = n + 1 + m + 1 := rfl
    rw [e1] at ih
    rw [ih, h1]
    dsimp only
    have e2 : (List.filterMap id (some D :: r)).length = (r.filterMap id).length + 1 := rfl
    rw [e2, List.range'_succ, List.append_assoc]
    rfl
theorem acc_val {G : List Cell} : ∀ (r : List (Option Rat)) (G1 : List Cell), G = G1 ++ cellsF r → (accW (c.length + G1.length) r).map (valOf (c ++ G)) = r ∧ ∀ w ∈ accW (c.length + G1.length) r, w = .non ∨ (W.low (c ++ G).length w = true ∧ ∃ D, SqF (c ++ G) D w)
  | [], G1, _ => ⟨rfl, fun w hw => by cases hw⟩
  | none :: r, G1, e => by
    obtain ⟨a, b⟩ := acc_val r G1 e
    refine ⟨?_, fun w hw => ?_⟩
    · show valOf _ .non :: List.map _ (accW (c.length + G1.length) r) = _
      rw [a]; rfl
    · rcases List.mem_cons.mp hw with rfl | hw
      · exact .inl rfl
      · exact b w hw
  | some D :: r, G1, e => by
    have e2 : G = (G1 ++ [cellF D]) ++ cellsF r := by rw [e, List.append_assoc]; rfl
    obtain ⟨a, b⟩ := acc_val r (G1 ++ [cellF D]) e2
    have e3 : c.length + (G1 ++ [cellF D]).length = c.length + G1.length + 1 := by rw [List.length_append]; rfl
    rw [e3] at a b
    have hs : SqF (c ++ G) D (.ref (c.length + G1.length)) := by
      show RB.getL (C (c ++ G)) (c.length + G1.length) = _
      have : (c ++ G)[c.length + G1.length]? = some (cellF D) := by
        rw [List.getElem?_append_right (Nat.le_add_right _ _), Nat.add_sub_cancel_left, e]
        show (G1 ++ cellF D :: cellsF r)[G1.length]? = _
        exact c_get
      unfold RB.getL
      show (match (c ++ G)[c.length + G1.length]? with | some (.lst ws) => some ws | some (.scr ws) => some ws | _ => none) = _
      rw [this]; rfl
    refine ⟨?_, fun w hw => ?_⟩
    · show valOf _ (.ref (c.length + G1.length)) :: List.map _ (accW (c.length + G1.length + 1) r) = _
      rw [a, hs.val]
    · rcases List.mem_cons.mp hw with rfl | hw
      · refine .inr ⟨?_, D, hs⟩
        show decide (_ < _) = true
        rw [decide_eq_true_eq, List.length_append, e, List.length_append]
        have : (cellsF (some D :: r)).length = (cellsF r).length + 1 := rfl
        rw [this]; omega
      · exact b w hw
/-- the mark behind some of a row's elements -/
def markD (n : Nat) (r : List (Option Rat)) : Option Nat := if r.filterMap id = [] then none else some n
theorem mark_non (n : Nat) (r : List (Option Rat)) : markD n (r ++ [none]) = markD n r := by unfold markD; rw [List.filterMap_append]; simp
theorem mark_some (n : Nat) (D : Rat) (r : List (Option Rat)) : markD n (r ++ [some D]) = some n := by unfold markD; rw [List.filterMap_append, if_neg (by simp)]
theorem mark_get {n k : Nat} {r : List (Option Rat)} (h : markD n r = some k) : k = n := by
  unfold markD at h; split at h
  · cases h
  · cases h; rfl
theorem mark_put {n : Nat} (r : List (Option Rat)) : mark (markD n r) n false = some n := by
  unfold mark
  rw [if_neg (by decide)]
  cases e : markD n r with
  | none => rfl
  | some k => rw [mark_get e]; show some (min n n) = _; rw [Nat.min_self]
theorem put_d {d : Option Nat} {x y : Cell} {b : Bool} : (⟨c ++ x :: g, d⟩ : Sto).put c.length y b = ⟨c ++ y :: g, mark d c.length b⟩ := by
  show (⟨(c ++ x :: g).set c.length y, mark d c.length b⟩ : Sto) = _
  rw [List.set_append_right _ _ (Nat.le_refl _), Nat.sub_self]; rfl
theorem loose_row1 (row : List (Option Rat)) (hl : row.length ≤ 4) (hne : row.filterMap id ≠ []) : F__law_loose 6 [.tup (row.map rowW), .int 1] (C c) = .ok (.tup (accW c.length row)) (C (c ++ cellsF row)) := by
  refine run_eq ?_
  unfold F__law_loose
  have tn : ∀ (l : List W) (st : Sto), tnOf st (.tup l) = some .tup := fun l st => rfl
  have vs : ∀ (a b d : Option W) (ws : List W) (st : Sto) (X : XP) (P : Src → Sto → Prop), Ok (vSeq (eLoc 0) [some (.tup ws), a, b, d] st) X P = P (.fix ws) st := fun a b d ws st X P => rfl
  have push : (C c).push (.lst []) = ⟨c ++ .lst [] :: [], none⟩ := rfl
  exists k_isi, tn, ans_tuple, truth, vs, push
  refine cloop_fix (row.map rowW) (fun i acc st => acc = accW (c.length + 1) (row.take i) ∧ st = ⟨c ++ .lst acc :: cellsF (row.take i), markD c.length (row.take i)⟩) (fun _ _ _ _ => rfl) ?_ ?_ 1000000 0 [] _ (by rw [rowlen]; omega) (Nat.zero_le _) ⟨rfl, rfl⟩
  · rintro i w acc st hw ⟨rfl, rfl⟩
    rw [List.getElem?_map] at hw
    cases eo : row[i]? with
    | none => rw [eo] at hw; cases hw
    | some o =>
      rw [eo] at hw
      cases hw
      refine ⟨_, rfl, ?_⟩
      have hi := (List.getElem?_eq_some_iff.mp eo).1
      have tk : row.take (i + 1) = row.take i ++ [o] := by rw [List.take_succ, eo]; rfl
      have al : (accW (c.length + 1) (row.take i)).length < 1000000 := by rw [acc_len, List.length_take]; omega
      generalize row.take i = r at al tk ⊢
      have mk : ∀ k, markD c.length r = some k → k < (c ++ .lst (accW (c.length + 1) r) :: cellsF r).length := fun k hk => by rw [mark_get hk, List.length_append, List.length_cons]; omega
      cases o with
      | none =>
        have lf := leafD (c := c ++ .lst (accW (c.length + 1) r) :: cellsF r) (d := 4) (t := 1 + 1) (w := .non) rfl mk
        have rw0 : rowW none = .non := rfl
        exists wipeL, bYes, rw0, kk lf
        refine ⟨_, m_get, al, ?_, ?_⟩
        · rw [tk, acc_non]
        · rw [tk, cells_non, mark_non, put_d]; rfl
      | some D =>
        have lt := loose_twoD (c := c ++ .lst (accW (c.length + 1) r) :: cellsF r) D.num (D.den : Nat) mk
        have rwD : rowW (some D) = .tup [.int D.num, .int (D.den : Nat)] := rfl
        have ta : (1 : Int) + 1 = 2 := rfl
        exists wipeL, bYes, rwD, ta, kk lt
        have ea : (c ++ .lst (accW (c.length + 1) r) :: cellsF r) ++ Cell.lst [.int D.num, .int (D.den : Nat)] :: [] = c ++ .lst (accW (c.length + 1) r) :: (cellsF r ++ [cellF D]) := by rw [List.append_assoc]; rfl
        rw [ea]
        have el : (c ++ Cell.lst (accW (c.length + 1) r) :: cellsF r).length = c.length + 1 + (r.filterMap id).length := by rw [List.length_append, List.length_cons, cells_len]; omega
        refine ⟨_, m_get, al, ?_, ?_⟩
        · rw [tk, acc_some, el]
        · have lo : W.low c.length (.ref (c ++ Cell.lst (accW (c.length + 1) r) :: cellsF r).length) = false := by
            show decide (_ < _) = false
            rw [decide_eq_false_iff_not, el]; omega
          rw [tk, cells_some, mark_some, put_d, lo, mark_put]
  · rintro acc st ⟨rfl, rfl⟩
    rw [rowlen, List.take_length]
    have tp : (0 : Int) < 2 := by decide
    have e2 : ((1 : Int) % 2 = 0) = False := eq_false (by decide)
    have ft : ∀ (X : XP) (P : W → Sto → Prop), Ok (fTuple [.ref c.length] ⟨c ++ .lst (accW (c.length + 1) row) :: cellsF row, markD c.length row⟩) X P = P (.tup (accW (c.length + 1) row)) ⟨c ++ .lst (accW (c.length + 1) row) :: cellsF row, markD c.length row⟩ := fun X P => v_tup (by
      show RB.getL _ _ = _
      unfold RB.getL
      show (match (c ++ .lst (accW (c.length + 1) row) :: cellsF row)[c.length]? with | some (.lst ws) => some ws | some (.scr ws) => some ws | _ => none) = _
      rw [m_get])
    exists tp, e2, ft
    have hr := relo_row (st := ⟨c ++ .lst (accW (c.length + 1) row) :: cellsF row, markD c.length row⟩) (n := c.length) row 0 [] rfl (fun k hk => by cases hk) (fun j D hj => by
      show (c ++ .lst (accW (c.length + 1) row) :: cellsF row)[c.length + 1 + 0 + j]? = _
      have e : c.length + 1 + 0 + j = c.length + (j + 1) := by omega
      rw [e, List.getElem?_append_right (Nat.le_add_right _ _), Nat.add_sub_cancel_left, List.getElem?_cons_succ]
      unfold cellsF
      rw [List.getElem?_map, hj]; rfl)
    have tr : trim c.length (.tup (accW (c.length + 1) row)) ⟨c ++ .lst (accW (c.length + 1) row) :: cellsF row, markD c.length row⟩ = .ok (.tup (accW c.length row)) (C (c ++ cellsF row)) := by
      unfold trim
      have hm : Sto.may ⟨c ++ .lst (accW (c.length + 1) row) :: cellsF row, markD c.length row⟩ c.length = true := by
        unfold Sto.may markD
        rw [if_neg hne]
        show decide (_ ≤ _) = true
        rw [decide_eq_true_eq]; exact Nat.le_refl _
      rw [if_pos hm, if_neg (by rw [show W.pure (.tup (accW (c.length + 1) row)) = W.pures (accW (c.length + 1) row) from rfl, acc_pure _ _ hne]; decide)]
      dsimp only
      have hr : relo ⟨c ++ .lst (accW (c.length + 1) row) :: cellsF row, markD c.length row⟩ c.length (accW (c.length + 1) row) [] = some (accW c.length row, List.range' (c.length + 1) (row.filterMap id).length) := hr
      rw [hr]
      dsimp only
      congr 2
      rw [List.take_left]
      congr 1
      refine List.ext_getElem? fun j => ?_
      rw [List.getElem?_map]
      by_cases hj : j < (row.filterMap id).length
      · rw [List.getElem?_range' hj]
        have e : c.length + 1 + 1 * j = c.length + (j + 1) := by omega
        show some ((c ++ Cell.lst (accW (c.length + 1) row) :: cellsF row).getD (c.length + 1 + 1 * j) (.lst [])) = _
        rw [e, List.getD_eq_getElem?_getD, List.getElem?_append_right (Nat.le_add_right _ _), Nat.add_sub_cancel_left, List.getElem?_cons_succ]
        have hc : j < (cellsF row).length := by rw [cells_len]; exact hj
        rw [List.getElem?_eq_getElem hc]; rfl
      · rw [List.getElem?_eq_none (by rw [List.length_range']; omega), List.getElem?_eq_none (by rw [cells_len]; omega)]; rfl
    rw [tr]
    exact ⟨rfl, rfl⟩
theorem acc_rowV (row : List (Option Rat)) : RowV (c ++ cellsF row) (accW c.length row) row := by
  obtain ⟨a, b⟩ := acc_val (c := c) (G := cellsF row) row [] rfl
  exact ⟨a, b⟩
theorem row_rowV (row : List (Option Rat)) : RowV c (row.map rowW) row := by
  refine ⟨?_, fun w hw => ?_⟩
  · rw [List.map_map]
    have : ∀ o ∈ row, (valOf c ∘ rowW) o = id o := fun o _ => by
      cases o with
      | none => rfl
      | some D => exact (SqF.fr c D).val
    rw [List.map_congr_left this, List.map_id]
  · rcases mem_row hw with rfl | ⟨D, _, rfl⟩
    · exact .inl rfl
    · exact .inr ⟨rfl, D, SqF.fr c D⟩
/-- a row, loosened in either way -/
theorem loose_any {t : Int} (h0 : 0 ≤ t) (h2 : t < 2) (row : List (Option Rat)) (hl : row.length ≤ 4) (hne : row.filterMap id ≠ []) : ∃ (y : W) (cc : List Cell) (ws : List W), F__law_loose 6 [.tup (row.map rowW), .int t] (C c) = .ok y (C cc) ∧ seqOf (C cc) y = some ws ∧ RowV cc ws row := by
  have : t = 0 ∨ t = 1 := by omega
  rcases this with rfl | rfl
  · exact ⟨_, _, _, loose_row0 row hl, c_seq, row_rowV row⟩
  · exact ⟨_, _, _, loose_row1 row hl hne, rfl, acc_rowV row⟩
end
end LW

set_option Elab.async false
set_option linter.all false
set_option maxRecDepth 100000
set_option maxHeartbeats 4000000
namespace LW
open PySem PySem.W RB L2
local macro_rules | `(tactic| exists $es,*) => `(tactic| simp (config := {decide := false, implicitDefEqProofs := false, maxSteps := 1000000}) only [k_ok, k_exc, k_err, k_ite, k_iteS, k_nx, k_rt, k_loc, k_lit, k_nil, k_cons, k_tup, k_lst, k_bin, k_eB, k_eU, k_call, k_tru, k_not, k_and, k_or, k_if, k_eAnd, k_eOr, k_eNot, k_val, k_chain, k_sNil, k_sSeq, k_sSet, tgName, tgCons, tgNil, Option.bind_some, k_sDrop, k_sRet, k_sRetN, k_sIf, k_sBreak, k_sCont, k_sFor, k_sRaise, k_sTry, k_defn, k_rng1, k_comp,
  v_add, v_sub, v_mul, v_mod, v_div, v_lt, v_le, v_gt, v_ge, v_eq, v_ne, v_neg, v_int, v_min,
  List.map_cons, List.map_nil, List.length_cons, List.length_nil, List.replicate_succ, List.replicate_zero, List.cons_append, List.nil_append, List.append_nil, List.getElem?_cons_succ, List.getElem?_cons_zero, List.set_cons_succ, List.set_cons_zero,
  Nat.reduceAdd, Nat.reduceSub, Nat.zero_add, decide_eq_true_eq, Bool.not_eq_true', decide_eq_false_iff_not, Bool.true_eq_false, Bool.false_eq_true, if_true, if_false, ite_true, ite_false, ite_self, reduceIte, Nat.reduceLeDiff, true_and, and_true, not_true_eq_false, not_false_eq_true, decide_true, decide_false, Bool.not_true, Bool.not_false, $[$es:term],*])
section
variable {c g : List Cell} {X : XP} {P : W → Sto → Prop} {k s : Rat} {n : Nat} {w x y z v : W} {row : List (Option Rat)} {p q : Rat}
def datR : Option Rat → PyData
  | none => .none
  | some D => .tuple [.int D.num, .int (D.den : Nat)]
theorem dats_row : ∀ row : List (Option Rat), W.dats 8 (row.map rowW) = some (row.map datR)
  | [] => rfl
  | none :: r => by
    show (match some PyData.none, W.dats 8 (r.map rowW) with | some d, some ds => some (d :: ds) | _, _ => none) = _
    rw [dats_row r]; rfl
  | some D :: r => by
    show (match some (datR (some D)), W.dats 8 (r.map rowW) with | some d, some ds => some (d :: ds) | _, _ => none) = _
    rw [dats_row r]; rfl
theorem eqv_row : ∀ row : List (Option Rat), PyData.eqvAll (row.map datR) (row.map datR) = true
  | [] => rfl
  | none :: r => by
    show (PyData.eqv .none .none && PyData.eqvAll (r.map datR) (r.map datR)) = true
    rw [eqv_row r]; rfl
  | some D :: r => by
    show (PyData.eqv (datR (some D)) (datR (some D)) && PyData.eqvAll (r.map datR) (r.map datR)) = true
    rw [eqv_row r]
    simp [datR, PyData.eqv, PyData.eqvAll]
theorem eq_row (row : List (Option Rat)) (st : Sto) (X : XP) (P : W → Sto → Prop) : Ok (wEq (.tup (row.map rowW)) (.tup (row.map rowW)) st) X P = P (.bl true) st := by
  have d : datOf st (.tup (row.map rowW)) = some (.tuple (row.map datR)) := by
    show (W.dats 8 (row.map rowW)).map PyData.tuple = _
    rw [dats_row]; rfl
  unfold wEq
  rw [d]
  show P (.bl (PyData.eqvAll (row.map datR) (row.map datR))) st = _
  rw [eqv_row]
def manyW : W := .tup [.str "many", .str "stakes"]
theorem eq_many (st : Sto) (X : XP) (P : W → Sto → Prop) : Ok (wEq manyW manyW st) X P = P (.bl true) st := by
  have e1 : PyData.strOk "many" = true := by decide +kernel
  have e2 : PyData.strOk "stakes" = true := by decide +kernel
  have d : datOf st manyW = some (.tuple [.str "many", .str "stakes"]) := by
    show (W.dats 8 [.str "many", .str "stakes"]).map PyData.tuple = _
    have a1 : W.dat 8 (.str "many") = some (.str "many") := by show (if _ then _ else _) = _; rw [if_pos e1]
    have a2 : W.dat 8 (.str "stakes") = some (.str "stakes") := by show (if _ then _ else _) = _; rw [if_pos e2]
    have : W.dats 8 [.str "many", .str "stakes"] = some [.str "many", .str "stakes"] := by
      show (match W.dat 8 (.str "many"), W.dats 8 [.str "stakes"] with | some d, some ds => some (d :: ds) | _, _ => none) = _
      have a3 : W.dats 8 [.str "stakes"] = some [.str "stakes"] := by
        show (match W.dat 8 (.str "stakes"), W.dats 8 [] with | some d, some ds => some (d :: ds) | _, _ => none) = _
        rw [a2]; rfl
      rw [a1, a3]
    rw [this]; rfl
  unfold wEq
  rw [d]
  show P (.bl (PyData.eqvAll [.str "many", .str "stakes"] [.str "many", .str "stakes"])) st = _
  simp [PyData.eqv, PyData.eqvAll]
theorem fault_many (h : F_least_stakes [w, y] (C c) = .exc 1 (.str "stakes") (C c)) : F__law_pool_fault [.int 2, w, y, z] (C c) = .ok manyW (C c) := by
  have tg : ∀ (l : Lo) (D : Po4), OkS (tryGo [(cat_BadValue, fun p => .tup [.str "value", p]), (cat_TooMany, fun p => .tup [.str "many", p])] 1 (.str "stakes") l (C c)) D = D.rt manyW (C c) := fun l D => rfl
  refine run_eq ?_
  unfold F__law_pool_fault
  have e0 : ((2 : Int) = 0) = False := eq_false (by decide)
  have e1 : ((2 : Int) = 1) = False := eq_false (by decide)
  exists k_tryM, e0, e1, kx h, tg
  rw [if_pos (by decide), c_trim0 rfl]; exact ⟨rfl, rfl⟩
theorem numeric_ok (z : Int) : F__law_numeric [.int z] (C c) = .ok (.bl true) (C c) := by
  refine run_eq ?_
  unfold F__law_numeric
  exists k_isi, tnOf, ans_int, ans_bool
  rw [c_trim0 rfl]; exact ⟨rfl, rfl⟩
theorem lo_nonneg (h : PoolQ k s) {D : Rat} (hD : PayQ s D) (m : Nat) : 0 ≤ loI k s D m := by
  have low0 : 0 ≤ lowQ k s D * ((m : Nat) : Rat) := Rat.mul_nonneg (Rat.mul_nonneg (Rat.le_of_lt h.r0) (Rat.le_of_lt (Rat.inv_pos.mpr (ds_pos h hD.d0)))) Rat.natCast_nonneg
  have f0 : 0 ≤ (lowQ k s D * ((m : Nat) : Rat)).floor := Rat.le_floor_iff.mpr low0
  unfold loI; omega
theorem first_nat {ls : List (Int × Int)} {m : Nat} (h : canB ls (m : Nat) = true) (h0 : ∀ p ∈ ls, 0 ≤ p.1) : ∃ ts : List Nat, (firstI ls (m : Nat)).map W.int = iW ts ∧ ts.length = ls.length ∧ ts.sum = m ∧ ∀ (i : Nat) p t, ls[i]? = some p → ts[i]? = some t → p.1 ≤ ((t : Nat) : Int) ∧ ((t : Nat) : Int) ≤ p.2 := by
  obtain ⟨a1, a2, a3⟩ := can_ok h
  obtain ⟨b1, b2⟩ := first_ok a1 a2 a3
  have hl := first_len ls (m : Nat)
  have nn : ∀ x ∈ firstI ls (m : Nat), 0 ≤ x := fun x hx => by
    obtain ⟨i, hi, e⟩ := List.mem_iff_getElem.mp hx
    have hi2 : i < ls.length := by rw [← hl]; exact hi
    have := (b2 i ls[i] x (List.getElem?_eq_getElem hi2) (by rw [List.getElem?_eq_getElem hi, e])).1
    have := h0 ls[i] (List.getElem_mem hi2)
    omega
  generalize firstI ls (m : Nat) = fs at *
  have cast : (fs.map Int.toNat).map (fun a : Nat => (a : Int)) = fs := by
    rw [List.map_map]
    have : ∀ x ∈ fs, ((fun a : Nat => (a : Int)) ∘ Int.toNat) x = id x := fun x hx => Int.toNat_of_nonneg (nn x hx)
    rw [List.map_congr_left this, List.map_id]
  refine ⟨fs.map Int.toNat, ?_, by rw [List.length_map, hl], ?_, fun i p t hp ht => ?_⟩
  · conv => lhs; rw [← cast]
    rw [List.map_map]; rfl
  · have : ∀ l : List Nat, (l.map fun a : Nat => (a : Int)).sum = ((l.sum : Nat) : Int) := by
      intro l
      induction l with
      | nil => rfl
      | cons a r ih => rw [List.map_cons, List.sum_cons, List.sum_cons, ih, Int.natCast_add]
    have e := this (fs.map Int.toNat)
    rw [cast, b1] at e
    omega
  · rw [List.getElem?_map] at ht
    cases ex : fs[i]? with
    | none => rw [ex] at ht; cases ht
    | some x =>
      rw [ex] at ht
      cases ht
      have := b2 i p x hp ex
      have := nn x (List.mem_of_getElem? ex)
      rw [Int.toNat_of_nonneg this]
      omega
theorem paid_row (h : PoolQ k s) (hr : ∀ D, some D ∈ row → PayQ s D) {m : Nat} (hm : 0 < m) {ts : List Nat} (hl : ts.length = row.length) (hb : ∀ (i : Nat) p t, (limsOf k s row m)[i]? = some p → ts[i]? = some t → p.1 ≤ ((t : Nat) : Int) ∧ ((t : Nat) : Int) ≤ p.2) : ts.map (payW k s m) = row.map rowW := by
  refine List.ext_getElem? fun i => ?_
  rw [List.getElem?_map, List.getElem?_map]
  by_cases hi : i < row.length
  · have hi2 : i < ts.length := by omega
    rw [List.getElem?_eq_getElem hi, List.getElem?_eq_getElem hi2]
    have q := hb i (limI k s m row[i]) ts[i] (by unfold limsOf; rw [List.getElem?_map, List.getElem?_eq_getElem hi]; rfl) (List.getElem?_eq_getElem hi2)
    show some (payW k s m ts[i]) = some (rowW row[i])
    congr 1
    have hmem := List.getElem_mem hi
    generalize row[i] = o at q hmem ⊢
    generalize ts[i] = t at q ⊢
    cases o with
    | none =>
      have q : (0 : Int) ≤ (t : Nat) ∧ ((t : Nat) : Int) ≤ 0 := q
      have : t = 0 := by omega
      subst this
      rfl
    | some D =>
      have hD := hr D hmem
      obtain ⟨t0, e⟩ := bounds_pay h ⟨hD.d0, hD.m⟩ hm q.1 q.2
      unfold payW
      rw [if_neg (by omega), e]; rfl
  · rw [List.getElem?_eq_none (by omega), List.getElem?_eq_none (by omega)]; rfl
theorem plain_ints (d : Nat) (ts : List Nat) (hl : ts.length ≤ 4) : plainW (d + 2) (.tup (iW ts)) = true := by
  show (decide ((iW ts).length < 1000000) && (iW ts).all (plainW (d + 1))) = true
  rw [decide_eq_true (by rw [iW_len]; omega), Bool.true_and, List.all_eq_true]
  intro w hw
  obtain ⟨a, _, rfl⟩ := mem_iW hw
  rfl
/-- what the law asks of a row of the pool -/
structure RowQ (s : Rat) (n : Nat) (row : List (Option Rat)) : Prop where
  len : row.length = n
  pay : ∀ D, some D ∈ row → PayQ s D
  ne : row.filterMap id ≠ []
theorem payq_zero : PayQ s 0 := ⟨Rat.le_refl, by rw [Rat.zero_mul]; rfl, ⟨by decide, by decide⟩⟩
theorem payq_times (h : PoolQ k s) {t : Int} (h0 : 0 ≤ t) (h1 : t < 60) : PayQ s (s * (t : Rat)) := by
  refine ⟨Rat.mul_nonneg (Rat.le_of_lt h.s0) (Rat.intCast_nonneg.mpr h0), ?_, ?_⟩
  · rw [Rat.mul_comm s, Rat.mul_assoc, Rat.mul_inv_cancel s (ne_of_pos h.s0), Rat.mul_one]; rfl
  · exact (bd_mul h.bs (bd_int (k := 6) (by omega) (by decide))).mono (by decide)
theorem payq_move (h : PoolQ k s) {D : Rat} (hD : PayQ s D) (hb : Bq 60 D) {t : Int} (h0 : -2 ≤ t) (h1 : t ≤ 2) (hn : 0 ≤ D + s * (t : Rat)) : PayQ s (D + s * (t : Rat)) := by
  refine ⟨hn, ?_, ?_⟩
  · rw [Rat.add_mul, Rat.mul_comm s, Rat.mul_assoc, Rat.mul_inv_cancel s (ne_of_pos h.s0), Rat.mul_one]
    obtain ⟨d, hd⟩ : ∃ d : Int, D * s⁻¹ = (d : Rat) := ⟨(D * s⁻¹).num, by
      refine Rat.ext rfl ?_
      rw [hD.m]; rfl⟩
    rw [hd, ← Rat.intCast_add]; rfl
  · exact (bd_add hb (bd_mul h.bs (bd_int (k := 2) (by omega) (by decide)))).mono (by decide)
theorem due_60 {ss : List Nat} (h : PoolQ k s) (hl : ss.length ≤ 4) (hm : ∀ a ∈ ss, a < 2 ^ 31) : ∀ D, some D ∈ dueR k s ss → Bq 60 D := fun D hD => by
  obtain ⟨a, ha, e⟩ := List.mem_map.mp hD
  by_cases h0 : a = 0
  · rw [if_pos h0] at e; cases e
  · rw [if_neg h0] at e
    cases e
    have hS := sum33 hl hm
    have h31 := hm a ha
    exact (h.bp hS (by omega) (by omega)).mono (by decide)
theorem mem_set {row : List (Option Rat)} {j : Nat} {o : Option Rat} {D : Rat} (h : some D ∈ row.set j o) : some D ∈ row ∨ o = some D := by
  rcases List.mem_or_eq_of_mem_set h with a | a
  · exact .inl a
  · exact .inr a.symm
theorem set_ne {row : List (Option Rat)} {j : Nat} {D : Rat} (hj : j < row.length) : (row.set j (some D)).filterMap id ≠ [] := fun e => by
  have : some D ∈ row.set j (some D) := List.mem_iff_getElem?.mpr ⟨j, List.getElem?_set_self hj⟩
  have m : D ∈ (row.set j (some D)).filterMap id := List.mem_filterMap.mpr ⟨some D, this, rfl⟩
  rw [e] at m
  cases m
theorem RowQ.set {j : Nat} {D : Rat} (h : RowQ s n row) (hj : j < n) (hD : PayQ s D) : RowQ s n (row.set j (some D)) := by
  refine ⟨by rw [List.length_set]; exact h.len, fun E hE => ?_, set_ne (by rw [h.len]; exact hj)⟩
  rcases mem_set hE with a | a
  · exact h.pay E a
  · cases a; exact hD
end
theorem pure_law : Runs F_law := by
  intro zs hl hbits
  suffices h : Ok (F_law [.ref 0] ⟨[.scr (zs.map .int)], none⟩) (fun _ _ _ => False) fun a _ => a = .bl true by
    obtain ⟨a, st, e, rfl⟩ := run_ex h
    exact ⟨st, e⟩
  obtain ⟨row, R, hnum⟩ := numbers_ok hl hbits
  obtain ⟨k, s, n, hP, hn, hpool⟩ := pool_ok (ns := zs.map .int) (p := 0) (rest := []) R (by decide) (by decide)
  obtain ⟨v1, hv1, e1⟩ := takeK (ns := zs.map .int) (p := 0 + 9) R (by decide) (by decide) [Cell.lst [.int 6, .int 40, .int 300]] (lim := 3) (by decide)
  obtain ⟨wide, hw1, hw2, mw⟩ : ∃ wide : Nat, 1 ≤ wide ∧ wide ≤ 1000 ∧ L2.atI [W.int 6, .int 40, .int 300] v1 = some (.int (wide : Nat)) := by
    have : v1 = 0 ∨ v1 = 1 ∨ v1 = 2 := by omega
    rcases this with rfl | rfl | rfl
    · exact ⟨6, by decide, by decide, rfl⟩
    · exact ⟨40, by decide, by decide, rfl⟩
    · exact ⟨300, by decide, by decide, rfl⟩
  obtain ⟨ss, p2, hss, hp2, hst⟩ := pstakes_ok (ns := zs.map .int) (p := 0 + 9 + 1) (rest := [Cell.lst [.int 6, .int 40, .int 300]]) (w1 := frW k) (w2 := frW s) R (by decide) (by decide) hn.1 hn.2 hw1 hw2
  generalize hB : Cell.lst [.int 6, .int 40, .int 300] = B at *
  have hs4 : ss.length ≤ 4 := by omega
  have hs31 : ∀ a ∈ ss, a < 2 ^ 31 := fun a ha => by have := hss.2.2 a ha; omega
  have d1 := lpay_ok (c := (S (zs.map .int) row p2 [B]).c) (n := n) hP hs4 hs31
  rw [due_W] at d1
  have hQ : RowQ s n (dueR k s ss) := ⟨due_len.trans hss.1, due_ok (k := k) (s := s) hP hs4 hs31, due_ne (k := k) (s := s) hss.2.1⟩
  have h60 := due_60 hP hs4 hs31
  generalize dueR k s ss = r0 at d1 hQ h60
  unfold F_law
  generalize hT : sSeq (sSet (tgName 4) (eB fTuple _)) _ = T
  have fin : ∀ c' : List Cell, Ok (trim 1 (.bl true) (C c')) (fun _ _ _ => False) fun a _ => a = W.bl true := fun c' => by rw [k_trim rfl]
  have tail : ∀ (q : Int) (r : List (Option Rat)) (l5 l6 l7 l8 : Option W) (D : Po4), 0 ≤ q → q ≤ 10000 → RowQ s n r → (∀ c', D.rt (.bl true) (C c')) →
      OkS (T [some (.ref 0), some (.ref 1), some (.ref 2), some (.tup [frW k, frW s, .int (n : Nat)]), some (.ref 4), l5, l6, l7, l8, none, none, none, none] (S (zs.map .int) row q [B, .lst (r.map rowW)])) D := by
    intro q r l5 l6 l7 l8 D hq0 hq hr hD
    subst hT
    have h4 : r.length ≤ 4 := by rw [hr.len]; exact hn.2
    have vt : ∀ (X : XP) (P : W → Sto → Prop), Ok (fTuple [.ref 4] (S (zs.map .int) row q [B, .lst (r.map rowW)])) X P = P (.tup (r.map rowW)) (S (zs.map .int) row q [B, .lst (r.map rowW)]) := fun X P => v_tup rfl
    obtain ⟨t, ht, et⟩ := takeK (ns := zs.map .int) (p := q) R (by omega) (by omega) [B, .lst (r.map rowW)] (lim := 2) (by decide)
    obtain ⟨y, cc, ws, lo, sy, hV⟩ := loose_any (c := (S (zs.map .int) row (q + 1) [B, .lst (r.map rowW)]).c) ht.1 ht.2 r h4 hr.ne
    have a1 := lcomes_ok (c := (S (zs.map .int) row q [B, .lst (r.map rowW)]).c) (n := n) hP h4 hr.pay
    have a2 := comes_ok (c := (S (zs.map .int) row q [B, .lst (r.map rowW)]).c) (x := .tup [frW k, frW s, .int (n : Nat)]) (y := .tup (r.map rowW)) hP hn.1 hn.2 rfl rfl hr.len hr.pay hr.ne
    have a3 := spread_ok (c := (S (zs.map .int) row q [B, .lst (r.map rowW)]).c) (x := .tup [frW k, frW s, .int (n : Nat)]) (y := .tup (r.map rowW)) hP hn.1 hn.2 rfl rfl hr.len hr.pay hr.ne
    have a4 := lspread_ok (c := (S (zs.map .int) row q [B, .lst (r.map rowW)]).c) (n := n) hP h4 hr.pay
    have s3 := so_self (c := (S (zs.map .int) row q [B, .lst (r.map rowW)]).c) 6 (pairW (sumQ (lowsQ k s r)) (sumQ (highsQ k r))) rfl
    have hrow := row_v (c := cc) (x := .tup [frW k, frW s, .int (n : Nat)]) hP hn.2 rfl sy hV hr.len hr.pay hr.ne
    have hbo := bounds_v (c := cc) (x := .tup [frW k, frW s, .int (n : Nat)]) hP rfl sy hV h4 hr.pay
    have cg := comes_g (c := cc) (x := .tup [frW k, frW s, .int (n : Nat)]) hP hn.1 hn.2 rfl hrow hbo hr.len hr.pay hr.ne
    generalize (decide (sumQ (lowsQ k s r) < 1) && !decide (sumQ (highsQ k r) < 1)) = fine at a1 a2 cg
    have s1 := so_self (c := (S (zs.map .int) row q [B, .lst (r.map rowW)]).c) 6 (.bl fine) rfl
    cases fine with
    | false =>
      have ln := least_no cg
      have v : ∀ (st : Sto) (X : XP) (P : W → Sto → Prop), Ok (wIsN .non .non st) X P = P (.bl true) st := fun st X P => rfl
      exists vt, kk a1, kk a2, kk s1, kk a3, kk a4, kk s3, truth, et, kk lo, kk ln, v
      exact hD _
    | true =>
      have ls := leastsum_ok (c := (S (zs.map .int) row q [B, .lst (r.map rowW)]).c) (n := n) hP h4 hr.pay
      cases em : leastM k s r 5000 with
      | none =>
        rw [em] at ls
        dsimp only at ls
        have ly : F_least_stakes [.tup [frW k, frW s, .int (n : Nat)], .tup (r.map rowW)] (C (S (zs.map .int) row q [B, .lst (r.map rowW)]).c) = .exc 1 (.str "stakes") (C (S (zs.map .int) row q [B, .lst (r.map rowW)]).c) :=
          least_yes (Q := fun res => res = .exc 1 (.str "stakes") (C (S (zs.map .int) row q [B, .lst (r.map rowW)]).c)) hP a2 (n := n) rfl rfl h4 hr.pay (fun m e => by rw [em] at e; cases e) (fun _ => rfl)
        have fm := fault_many (z := .int 0) ly
        have v : ∀ (st : Sto) (X : XP) (P : W → Sto → Prop), Ok (wIsN .non .non st) X P = P (.bl true) st := fun st X P => rfl
        have eqm : ∀ (st : Sto) (X : XP) (P : W → Sto → Prop), Ok (wEq manyW (.tup [.str "many", .str "stakes"]) st) X P = P (.bl true) st := eq_many
        exists vt, kk a1, kk a2, kk s1, kk a3, kk a4, kk s3, truth, kk ls, v, kk fm, (by decide : (2 : Nat) ≤ 1000), eqm
        exact hD _
      | some m =>
        rw [em] at ls
        dsimp only at ls
        obtain ⟨m1, m2, hcan, _⟩ := leastM_some em
        have lg := least_g (c := cc) (x := .tup [frW k, frW s, .int (n : Nat)]) (y := y) (Q := fun res => res = .ok (.tup ((firstI (limsOf k s r m) (m : Nat)).map .int)) (C cc)) hP cg hbo h4 hr.pay (fun m' e => by rw [em] at e; cases e; rfl) (fun e => by rw [em] at e; cases e)
        have lf := lfirst_ok (c := cc) (n := n) hP h4 hr.pay (m := m) (by omega)
        obtain ⟨ts, f1, f2, f3, f4⟩ := first_nat hcan fun p hp => by
          obtain ⟨o, ho, rfl⟩ := List.mem_map.mp hp
          cases o with
          | none => exact Int.le_refl 0
          | some D => exact lo_nonneg hP (hr.pay D ho) m
        rw [f1] at lg lf
        have tl : ts.length = n := by rw [f2, lims_len, hr.len]
        have tm : ∀ a ∈ ts, a < 2 ^ 31 := fun a ha => by have := le_sum ha; omega
        have pr := lpay_ok (c := cc) (n := n) (ss := ts) hP (by omega) tm
        rw [f3, paid_row hP hr.pay (by omega) (by rw [f2, lims_len]) f4] at pr
        have so2 := so_self (c := cc) 6 (.tup (iW ts)) (plain_ints 4 ts (by omega))
        have v : ∀ (st : Sto) (X : XP) (P : W → Sto → Prop), Ok (wIsN (.int (m : Nat)) .non st) X P = P (.bl false) st := fun st X P => rfl
        have tn : ∀ (l : List W) (st : Sto), tnOf st (.tup l) = some .tup := fun l st => rfl
        have ln : ∀ (st : Sto) (X : XP) (P : W → Sto → Prop), Ok (fLen [.tup (iW ts)] st) X P = P (.int (n : Nat)) st := fun st X P => by rw [v_lenL (by intro z h; cases h) (ws := iW ts) rfl, iW_len, tl]
        have i2 : ∀ (st : Sto) (X : XP) (P : W → Sto → Prop), Ok (wIx (.tup [frW k, frW s, .int (n : Nat)]) (.int 2) st) X P = P (.int (n : Nat)) st := fun st X P => rfl
        have vs : ∀ (st : Sto) (X : XP) (P : Src → Sto → Prop), Ok (vSeq (eLoc 11) [some (.ref 0), some (.ref 1), some (.ref 2), some (.tup [frW k, frW s, .int (n : Nat)]), some (.tup (r.map rowW)), l5, l6, l7, l8, some (.bl true), some (.int (m : Nat)), some (.tup (iW ts)), none] st) X P = P (.fix (iW ts)) st := fun st X P => rfl
        exists vt, kk a1, kk a2, kk s1, kk a3, kk a4, kk s3, truth, kk ls, v, et, kk lo, kk lg, k_isi, tn, ans_tuple, ln, i2, vs
        refine loop_fix (iW ts) (fun i l st => (∃ a : Option W, l = [some (.ref 0), some (.ref 1), some (.ref 2), some (.tup [frW k, frW s, .int (n : Nat)]), some (.tup (r.map rowW)), l5, l6, l7, l8, some (.bl true), some (.int (m : Nat)), some (.tup (iW ts)), a]) ∧ st = C cc) (fun _ _ _ _ => rfl) ?_ ?_ 1000000 0 _ _ (by rw [iW_len]; omega) (Nat.zero_le _) ⟨⟨none, rfl⟩, rfl⟩
        · rintro i w l st hw ⟨⟨a, rfl⟩, rfl⟩
          obtain ⟨b, _, rfl⟩ := mem_iW (List.mem_of_getElem? hw)
          refine ⟨_, rfl, ?_⟩
          have nb : (((b : Nat) : Int) < 0) = False := eq_false (by omega)
          exists kk (numeric_ok (c := cc) (b : Nat)), truth, nb
          exact ⟨_, rfl⟩
        · rintro l st ⟨⟨a, rfl⟩, rfl⟩
          exists kk lf, kk so2, kk pr, eq_row
          exact hD _
  have q1 : (Sto.mk [Cell.scr (zs.map .int), .lst (row.map .int)] none).push (.lst [.int 0]) = S (zs.map .int) row 0 [] := rfl
  have q2 : (S (zs.map .int) row (0 + 9) []).push B = S (zs.map .int) row (0 + 9) [B] := rfl
  have ix : ∀ (X : XP) (P : W → Sto → Prop), Ok (wIx (.ref 3) (.int v1) (S (zs.map .int) row (0 + 9 + 1) [B])) X P = P (.int (wide : Nat)) (S (zs.map .int) row (0 + 9 + 1) [B]) := fun X P => by subst hB; exact v_ix rfl mw
  have len3 : (S (zs.map .int) row (0 + 9) []).c.length = 3 := rfl
  have fl : ∀ (X : XP) (P : W → Sto → Prop), Ok (fList [.tup (r0.map rowW)] (S (zs.map .int) row p2 [B])) X P = P (.ref 4) (S (zs.map .int) row p2 [B, .lst (r0.map rowW)]) := fun X P => rfl
  obtain ⟨v2, hv2, e2⟩ := takeK (ns := zs.map .int) (p := p2) R (by omega) (by omega) [B, .lst (r0.map rowW)] (lim := 4) (by decide)
  obtain ⟨v3, hv3, e3⟩ := takeK (ns := zs.map .int) (p := p2 + 1) R (by omega) (by omega) [B, .lst (r0.map rowW)] (lim := (n : Nat)) (by omega)
  obtain ⟨v4, hv4, e4⟩ := takeK (ns := zs.map .int) (p := p2 + 1 + 1) R (by omega) (by omega) [B, .lst (r0.map rowW)] (lim := 5) (by decide)
  obtain ⟨v5, hv5, e5⟩ := takeK (ns := zs.map .int) (p := p2 + 1 + 1 + 1) R (by omega) (by omega) [B, .lst (r0.map rowW)] (lim := 60) (by decide)
  have i2 : ∀ (st : Sto) (X : XP) (P : W → Sto → Prop), Ok (wIx (.tup [frW k, frW s, .int (n : Nat)]) (.int 2) st) X P = P (.int (n : Nat)) st := fun st X P => rfl
  have i1 : ∀ (st : Sto) (X : XP) (P : W → Sto → Prop), Ok (wIx (.tup [frW k, frW s, .int (n : Nat)]) (.int 1) st) X P = P (frW s) st := fun st X P => rfl
  obtain ⟨j, hj⟩ : ∃ j : Nat, (j : Int) = v3 := ⟨v3.toNat, by omega⟩
  have hjn : j < r0.length := by rw [hQ.len]; omega
  have ixr : ∀ (q : Int) (X : XP) (P : W → Sto → Prop), Ok (wIx (.ref 4) (.int v3) (S (zs.map .int) row q [B, .lst (r0.map rowW)])) X P = P (rowW r0[j]) (S (zs.map .int) row q [B, .lst (r0.map rowW)]) := fun q X P => v_ix (ws := r0.map rowW) rfl (by
    rw [← hj, atI_in (by omega) (by rw [List.length_map]; omega), Int.toNat_natCast, List.getElem?_map, List.getElem?_eq_getElem hjn]; rfl)
  have put : ∀ (q : Int) (w : Option Rat) (l : Lo) (e : Ev) (D : Po4), l[4]? = some (some (.ref 4)) → l[6]? = some (some (.int v3)) → (∀ (X : XP) (P : W → Sto → Prop), P (rowW w) (S (zs.map .int) row q [B, .lst (r0.map rowW)]) → True) → True := fun _ _ _ _ _ _ _ _ => trivial
  have ixn : ixN (r0.map rowW).length v3 = some j := by unfold ixN; rw [rowlen, if_pos (by omega), if_pos (by omega)]; congr 1; omega
  have gg : ∀ q, (S (zs.map .int) row q [B, .lst (r0.map rowW)]).c[4]? = some (.lst (r0.map rowW)) := fun q => rfl
  have pt : ∀ (q : Int) (o : Option Rat), (S (zs.map .int) row q [B, .lst (r0.map rowW)]).put 4 (.lst ((r0.map rowW).set j (rowW o))) (W.low 4 (rowW o)) = S (zs.map .int) row q [B, .lst ((r0.set j o).map rowW)] := fun q o => by
    rw [W.pure_low (row_pure o), ← List.map_set]; rfl
  exists kk hnum, (by decide : (1 : Nat) ≤ 1000), (by decide : (3 : Nat) ≤ 1000), q1, kk hpool, hB, q2, e1, ix, len3, kk hst, kk d1, fl, e2
  by_cases h0 : 0 < v2
  · rw [if_pos h0]
    have he := List.getElem_mem hjn
    generalize r0[j] = o at he ixr
    cases o with
    | none =>
      have v : ∀ (st : Sto) (X : XP) (P : W → Sto → Prop), Ok (wNotN (rowW none) .non st) X P = P (.bl false) st := fun st X P => rfl
      exists i2, e3, e4, ixr, v
      by_cases h2 : v2 = 2
      · have eT : frW ((v5 : Int) : Rat) = .tup [.int v5, .int 1] := rfl
        have tm := ltimes_ok (c := (S (zs.map .int) row (p2 + 1 + 1 + 1 + 1) [B, .lst (r0.map rowW)]).c) (p := s) (q := (v5 : Rat)) (hP.bs.mono (by decide)) ((bd_int (k := 6) (by omega) (by decide)).mono (by decide))
        rw [eT] at tm
        have rD : frW (s * (v5 : Rat)) = rowW (some (s * (v5 : Rat))) := rfl
        rw [rD] at tm
        exists h2, k_ixw, i1, e5, (by decide : (2 : Nat) ≤ 1000), kk tm, gg, ixn, pt
        exact tail _ _ _ _ _ _ _ (by omega) (by omega) (hQ.set (by omega) (payq_times hP hv5.1 hv5.2)) fin
      · exists h2
        exact tail _ _ _ _ _ _ _ (by omega) (by omega) hQ fin
    | some D =>
      have v : ∀ (st : Sto) (X : XP) (P : W → Sto → Prop), Ok (wNotN (frW D) .non st) X P = P (.bl true) st := fun st X P => rfl
      have hD := hQ.pay D he
      have hD60 := h60 D he
      have bt : Bq 4 (((v4 - 2 : Int)) : Rat) := bd_int (k := 4) (by omega) (by decide)
      have eT : frW (((v4 - 2 : Int)) : Rat) = .tup [.int (v4 - 2), .int 1] := rfl
      have tm := ltimes_ok (c := (S (zs.map .int) row (p2 + 1 + 1 + 1) [B, .lst (r0.map rowW)]).c) (p := s) (q := ((v4 - 2 : Int) : Rat)) (hP.bs.mono (by decide)) (bt.mono (by decide))
      rw [eT] at tm
      have pl := lplus_ok (c := (S (zs.map .int) row (p2 + 1 + 1 + 1) [B, .lst (r0.map rowW)]).c) (p := D) (q := s * ((v4 - 2 : Int) : Rat)) (hD60.mono (by decide)) ((bd_mul hP.bs bt).mono (by decide))
      have rD : rowW (some D) = frW D := rfl
      rw [rD] at ixr
      by_cases hn0 : 0 ≤ D + s * ((v4 - 2 : Int) : Rat)
      · have hnum0 : 0 ≤ (D + s * ((v4 - 2 : Int) : Rat)).num := Rat.num_nonneg.mpr hn0
        have mv := payq_move hP hD hD60 (t := v4 - 2) (by omega) (by omega) hn0
        generalize D + s * ((v4 - 2 : Int) : Rat) = E at pl hnum0 mv
        have pE := fun q => pt q (some E)
        have rE : rowW (some E) = frW E := rfl
        rw [rE] at pE
        exists i2, e3, e4, ixr, v, i1, (by decide : (2 : Nat) ≤ 1000), kk tm, kk pl, k_ixw, i0_fr, hnum0, gg, ixn, pE
        exact tail _ _ _ _ _ _ _ (by omega) (by omega) (hQ.set (by omega) mv) fin
      · have hnum0 : ¬ 0 ≤ (D + s * ((v4 - 2 : Int) : Rat)).num := fun h => hn0 (Rat.num_nonneg.mp h)
        generalize D + s * ((v4 - 2 : Int) : Rat) = E at pl hnum0
        have pE := fun q => pt q (some 0)
        have rE : rowW (some 0) = .tup [.int 0, .int 1] := rfl
        rw [rE] at pE
        exists i2, e3, e4, ixr, v, i1, (by decide : (2 : Nat) ≤ 1000), kk tm, kk pl, k_ixw, i0_fr, hnum0, gg, ixn, pE
        exact tail _ _ _ _ _ _ _ (by omega) (by omega) (hQ.set (by omega) payq_zero) fin
  · rw [if_neg h0]
    exact tail _ _ _ _ _ _ _ (by omega) (by omega) hQ fin
end LW

set_option Elab.async false
set_option linter.all false
set_option maxRecDepth 100000
set_option maxHeartbeats 4000000
namespace LW
open PySem PySem.Spec PyProof.Rows L2 RB
theorem all_mk {P : Program} {w : World} {K : PySem.W.Frag} {h : Heap} {mg : Str → Option Value} {fa : Addr} (X : K.In h) (G : h.Ns mainGlobals mg) (hfa : mg "law" = some (.ref fa))
    {Z_ZERO Z_ONE D_BadValue I_BadValue N_BadValue B_BadValue_BookError D_TooMany I_TooMany N_TooMany B_TooMany_BookError f_is_integer f_is_integer_within f_is_sequence f_is_fraction f_is_amount f_fraction f_plus f_minus f_times f_one_over f_is_below f_least_of f_total f__is_kept f__is_step f__need_pool f__need_stakes f__returned f__payment f_payments f__is_payment f__need_row f__bound f__bounds f_spread f_comes f__can_come_to f__limits f__first_stakes f_least_stakes f__are_own f__won f_pool_gain f__law_so f__law_numbers f__law_draw f__law_take f__law_loose f__law_numeric f__law_gcd f__law_frac f__law_plus f__law_times f__law_minus f__law_below f__law_pool_fault f__law_pool f__law_pool_stakes f__law_payments f__law_spread f__law_comes f__law_bounds f__law_least_sum f__law_first_stakes f_law : Addr} {oc_BadValue dc_BadValue pm_BadValue cd_BadValue ct_BadValue oc_TooMany dc_TooMany pm_TooMany cd_TooMany ct_TooMany oc_is_integer kV_is_integer dc_is_integer pm_is_integer cd_is_integer ct_is_integer oc_is_integer_within kV_is_integer_within dc_is_integer_within pm_is_integer_within cd_is_integer_within ct_is_integer_within oc_is_sequence kV_is_sequence dc_is_sequence pm_is_sequence cd_is_sequence ct_is_sequence oc_is_fraction kV_is_fraction dc_is_fraction pm_is_fraction cd_is_fraction ct_is_fraction oc_is_amount kV_is_amount dc_is_amount pm_is_amount cd_is_amount ct_is_amount oc_fraction kV_fraction dc_fraction pm_fraction cd_fraction ct_fraction oc_plus kV_plus dc_plus pm_plus cd_plus ct_plus oc_minus kV_minus dc_minus pm_minus cd_minus ct_minus oc_times kV_times dc_times pm_times cd_times ct_times oc_one_over kV_one_over dc_one_over pm_one_over cd_one_over ct_one_over oc_is_below kV_is_below dc_is_below pm_is_below cd_is_below ct_is_below oc_least_of kV_least_of dc_least_of pm_least_of cd_least_of ct_least_of oc_total kV_total dc_total pm_total cd_total ct_total oc__is_kept kV__is_kept dc__is_kept pm__is_kept cd__is_kept ct__is_kept oc__is_step kV__is_step dc__is_step pm__is_step cd__is_step ct__is_step oc__need_pool kV__need_pool dc__need_pool pm__need_pool cd__need_pool ct__need_pool oc__need_stakes kV__need_stakes dc__need_stakes pm__need_stakes cd__need_stakes ct__need_stakes oc__returned kV__returned dc__returned pm__returned cd__returned ct__returned oc__payment kV__payment dc__payment pm__payment cd__payment ct__payment oc_payments kV_payments dc_payments pm_payments cd_payments ct_payments oc__is_payment kV__is_payment dc__is_payment pm__is_payment cd__is_payment ct__is_payment oc__need_row kV__need_row dc__need_row pm__need_row cd__need_row ct__need_row oc__bound kV__bound dc__bound pm__bound cd__bound ct__bound oc__bounds kV__bounds dc__bounds pm__bounds cd__bounds ct__bounds oc_spread kV_spread dc_spread pm_spread cd_spread ct_spread oc_comes kV_comes dc_comes pm_comes cd_comes ct_comes oc__can_come_to kV__can_come_to dc__can_come_to pm__can_come_to cd__can_come_to ct__can_come_to oc__limits kV__limits dc__limits pm__limits cd__limits ct__limits oc__first_stakes kV__first_stakes dc__first_stakes pm__first_stakes cd__first_stakes ct__first_stakes oc_least_stakes kV_least_stakes dc_least_stakes pm_least_stakes cd_least_stakes ct_least_stakes oc__are_own kV__are_own dc__are_own pm__are_own cd__are_own ct__are_own oc__won kV__won dc__won pm__won cd__won ct__won oc_pool_gain kV_pool_gain dc_pool_gain pm_pool_gain cd_pool_gain ct_pool_gain oc__law_so kV__law_so dc__law_so pm__law_so cd__law_so ct__law_so oc__law_numbers kV__law_numbers dc__law_numbers pm__law_numbers cd__law_numbers ct__law_numbers oc__law_draw kV__law_draw dc__law_draw pm__law_draw cd__law_draw ct__law_draw oc__law_take kV__law_take dc__law_take pm__law_take cd__law_take ct__law_take oc__law_loose kV__law_loose dc__law_loose pm__law_loose cd__law_loose ct__law_loose oc__law_numeric kV__law_numeric dc__law_numeric pm__law_numeric cd__law_numeric ct__law_numeric oc__law_gcd kV__law_gcd dc__law_gcd pm__law_gcd cd__law_gcd ct__law_gcd oc__law_frac kV__law_frac dc__law_frac pm__law_frac cd__law_frac ct__law_frac oc__law_plus kV__law_plus dc__law_plus pm__law_plus cd__law_plus ct__law_plus oc__law_times kV__law_times dc__law_times pm__law_times cd__law_times ct__law_times oc__law_minus kV__law_minus dc__law_minus pm__law_minus cd__law_minus ct__law_minus oc__law_below kV__law_below dc__law_below pm__law_below cd__law_below ct__law_below oc__law_pool_fault kV__law_pool_fault dc__law_pool_fault pm__law_pool_fault cd__law_pool_fault ct__law_pool_fault oc__law_pool kV__law_pool dc__law_pool pm__law_pool cd__law_pool ct__law_pool oc__law_pool_stakes kV__law_pool_stakes dc__law_pool_stakes pm__law_pool_stakes cd__law_pool_stakes ct__law_pool_stakes oc__law_payments kV__law_payments dc__law_payments pm__law_payments cd__law_payments ct__law_payments oc__law_spread kV__law_spread dc__law_spread pm__law_spread cd__law_spread ct__law_spread oc__law_comes kV__law_comes dc__law_comes pm__law_comes cd__law_comes ct__law_comes oc__law_bounds kV__law_bounds dc__law_bounds pm__law_bounds cd__law_bounds ct__law_bounds oc__law_least_sum kV__law_least_sum dc__law_least_sum pm__law_least_sum cd__law_least_sum ct__law_least_sum oc__law_first_stakes kV__law_first_stakes dc__law_first_stakes pm__law_first_stakes cd__law_first_stakes ct__law_first_stakes oc_law kV_law dc_law pm_law cd_law ct_law : Value} {zd_ZERO zd_ONE od_BadValue an_BadValue od_TooMany an_TooMany od_is_integer an_is_integer od_is_integer_within an_is_integer_within od_is_sequence an_is_sequence od_is_fraction an_is_fraction od_is_amount an_is_amount od_fraction an_fraction od_plus an_plus od_minus an_minus od_times an_times od_one_over an_one_over od_is_below an_is_below od_least_of an_least_of od_total an_total od__is_kept an__is_kept od__is_step an__is_step od__need_pool an__need_pool od__need_stakes an__need_stakes od__returned an__returned od__payment an__payment od_payments an_payments od__is_payment an__is_payment od__need_row an__need_row od__bound an__bound od__bounds an__bounds od_spread an_spread od_comes an_comes od__can_come_to an__can_come_to od__limits an__limits od__first_stakes an__first_stakes od_least_stakes an_least_stakes od__are_own an__are_own od__won an__won od_pool_gain an_pool_gain od__law_so an__law_so od__law_numbers an__law_numbers od__law_draw an__law_draw od__law_take an__law_take od__law_loose an__law_loose od__law_numeric an__law_numeric od__law_gcd an__law_gcd od__law_frac an__law_frac od__law_plus an__law_plus od__law_times an__law_times od__law_minus an__law_minus od__law_below an__law_below od__law_pool_fault an__law_pool_fault od__law_pool an__law_pool od__law_pool_stakes an__law_pool_stakes od__law_payments an__law_payments od__law_spread an__law_spread od__law_comes an__law_comes od__law_bounds an__law_bounds od__law_least_sum an__law_least_sum od__law_first_stakes an__law_first_stakes od_law an_law : Option Addr} {zs_ZERO zs_ONE sl_BadValue sl_TooMany sl_is_integer sl_is_integer_within sl_is_sequence sl_is_fraction sl_is_amount sl_fraction sl_plus sl_minus sl_times sl_one_over sl_is_below sl_least_of sl_total sl__is_kept sl__is_step sl__need_pool sl__need_stakes sl__returned sl__payment sl_payments sl__is_payment sl__need_row sl__bound sl__bounds sl_spread sl_comes sl__can_come_to sl__limits sl__first_stakes sl_least_stakes sl__are_own sl__won sl_pool_gain sl__law_so sl__law_numbers sl__law_draw sl__law_take sl__law_loose sl__law_numeric sl__law_gcd sl__law_frac sl__law_plus sl__law_times sl__law_minus sl__law_below sl__law_pool_fault sl__law_pool sl__law_pool_stakes sl__law_payments sl__law_spread sl__law_comes sl__law_bounds sl__law_least_sum sl__law_first_stakes sl_law : Array (Option Value)} {tk0_ZERO tk1_ZERO tk0_ONE tk1_ONE tk_MOST_BOTTOM_OF_STEP tk_MOST_RUNNERS tk_MOST_STAKE tk_MOST_IN_ALL : Tok} {zn_ZERO zn_ONE : Nat} {nm_BadValue q_BadValue : Str} {bs_BadValue sub_BadValue : List Value} {sn_BadValue : List Str} {ab_BadValue : Bool} {col_BadValue : Option Bool} {dd_BadValue : Option Addr} {k0_BadValue k1_BadValue k2_BadValue k3_BadValue k5_BadValue : Option Value} {nm_TooMany q_TooMany : Str} {bs_TooMany sub_TooMany : List Value} {sn_TooMany : List Str} {ab_TooMany : Bool} {col_TooMany : Option Bool} {dd_TooMany : Option Addr} {k0_TooMany k1_TooMany k2_TooMany k3_TooMany k5_TooMany : Option Value}
    (z_abs : PySem.W.nsIn K mainGlobals "abs" = some none)
    (z_all : PySem.W.nsIn K mainGlobals "all" = some none)
    (z_any : PySem.W.nsIn K mainGlobals "any" = some none)
    (z_bool : PySem.W.nsIn K mainGlobals "bool" = some none)
    (z_int : PySem.W.nsIn K mainGlobals "int" = some none)
    (z_isinstance : PySem.W.nsIn K mainGlobals "isinstance" = some none)
    (z_len : PySem.W.nsIn K mainGlobals "len" = some none)
    (z_list : PySem.W.nsIn K mainGlobals "list" = some none)
    (z_max : PySem.W.nsIn K mainGlobals "max" = some none)
    (z_min : PySem.W.nsIn K mainGlobals "min" = some none)
    (z_range : PySem.W.nsIn K mainGlobals "range" = some none)
    (z_str : PySem.W.nsIn K mainGlobals "str" = some none)
    (z_sum : PySem.W.nsIn K mainGlobals "sum" = some none)
    (z_tuple : PySem.W.nsIn K mainGlobals "tuple" = some none)
    (z_zip : PySem.W.nsIn K mainGlobals "zip" = some none)
    (z_gcd : PySem.W.nsIn K mainGlobals "gcd" = some (some (.builtin "math.gcd")))
    (k_ZERO : PySem.W.nsIn K mainGlobals "ZERO" = some (some (.ref Z_ZERO)))
    (kt_ZERO : K.lookup Z_ZERO = some ⟨.type "tuple", zd_ZERO, .seq #[.int 0 tk0_ZERO, .int 1 tk1_ZERO] zn_ZERO, zs_ZERO⟩)
    (k_ONE : PySem.W.nsIn K mainGlobals "ONE" = some (some (.ref Z_ONE)))
    (kt_ONE : K.lookup Z_ONE = some ⟨.type "tuple", zd_ONE, .seq #[.int 1 tk0_ONE, .int 1 tk1_ONE] zn_ONE, zs_ONE⟩)
    (k_MOST_BOTTOM_OF_STEP : PySem.W.nsIn K mainGlobals "MOST_BOTTOM_OF_STEP" = some (some (.int 100 tk_MOST_BOTTOM_OF_STEP)))
    (k_MOST_RUNNERS : PySem.W.nsIn K mainGlobals "MOST_RUNNERS" = some (some (.int 4 tk_MOST_RUNNERS)))
    (k_MOST_STAKE : PySem.W.nsIn K mainGlobals "MOST_STAKE" = some (some (.int 1000000000 tk_MOST_STAKE)))
    (k_MOST_IN_ALL : PySem.W.nsIn K mainGlobals "MOST_IN_ALL" = some (some (.int 5000 tk_MOST_IN_ALL)))
    (a_BadValue : PySem.W.nsIn K mainGlobals "BadValue" = some (some (.ref D_BadValue)))
    (x_BadValue : K.lookup D_BadValue = some (excClassObj nm_BadValue q_BadValue D_BadValue N_BadValue bs_BadValue [.ref B_BadValue_BookError, .type "Exception", .type "BaseException", .type "object"] true sn_BadValue sub_BadValue ab_BadValue col_BadValue dd_BadValue k0_BadValue k1_BadValue k2_BadValue k3_BadValue k5_BadValue "Exception.__new__"))
    (sa_BadValue : PySem.W.findIn K (.ref D_BadValue) "__setattr__" = some (some (.builtin "object.__setattr__")))
    (ga_BadValue : PySem.W.findIn K (.ref D_BadValue) "__getattribute__" = some (some (.builtin "BaseException.__getattribute__")))
    (gg_BadValue : PySem.W.findIn K (.ref D_BadValue) "__getattr__" = some none)
    (nf_BadValue : PySem.W.findIn K (.ref D_BadValue) "at" = some none)
    (kc_BadValue : PySem.W.keepIn K (.ref D_BadValue) = true)
    (ex_BadValue : PySem.W.subIn K (.ref D_BadValue) (.type "BaseException") = some true)
    (ty_BadValue : PySem.W.typeIn K (.ref D_BadValue) = some (.type "type"))
    (hd_BadValue : PySem.W.hasDictIn K D_BadValue = true)
    (fi_BadValue : PySem.W.findIn K (.ref D_BadValue) "__init__" = some (some (.ref I_BadValue)))
    (ti_BadValue : PySem.W.typeIn K (.ref I_BadValue) = some (.type "function"))
    (l_BadValue : K.lookup I_BadValue = some ⟨oc_BadValue, od_BadValue, .func (PySem.W.fnOf "__init__" "BadValue.__init__" (defArgs (inClass (top 3) 0)) (defBody (inClass (top 3) 0)) (defScope (inClass (top 3) 0)) .none .none dc_BadValue pm_BadValue an_BadValue cd_BadValue ct_BadValue), sl_BadValue⟩)
    (c_BadValue : PySem.W.codeIn K cd_BadValue "BadValue.__init__" = true)
    (a_TooMany : PySem.W.nsIn K mainGlobals "TooMany" = some (some (.ref D_TooMany)))
    (x_TooMany : K.lookup D_TooMany = some (excClassObj nm_TooMany q_TooMany D_TooMany N_TooMany bs_TooMany [.ref B_TooMany_BookError, .type "Exception", .type "BaseException", .type "object"] true sn_TooMany sub_TooMany ab_TooMany col_TooMany dd_TooMany k0_TooMany k1_TooMany k2_TooMany k3_TooMany k5_TooMany "Exception.__new__"))
    (sa_TooMany : PySem.W.findIn K (.ref D_TooMany) "__setattr__" = some (some (.builtin "object.__setattr__")))
    (ga_TooMany : PySem.W.findIn K (.ref D_TooMany) "__getattribute__" = some (some (.builtin "BaseException.__getattribute__")))
    (gg_TooMany : PySem.W.findIn K (.ref D_TooMany) "__getattr__" = some none)
    (nf_TooMany : PySem.W.findIn K (.ref D_TooMany) "word" = some none)
    (kc_TooMany : PySem.W.keepIn K (.ref D_TooMany) = true)
    (ex_TooMany : PySem.W.subIn K (.ref D_TooMany) (.type "BaseException") = some true)
    (ty_TooMany : PySem.W.typeIn K (.ref D_TooMany) = some (.type "type"))
    (hd_TooMany : PySem.W.hasDictIn K D_TooMany = true)
    (fi_TooMany : PySem.W.findIn K (.ref D_TooMany) "__init__" = some (some (.ref I_TooMany)))
    (ti_TooMany : PySem.W.typeIn K (.ref I_TooMany) = some (.type "function"))
    (l_TooMany : K.lookup I_TooMany = some ⟨oc_TooMany, od_TooMany, .func (PySem.W.fnOf "__init__" "TooMany.__init__" (defArgs (inClass (top 4) 0)) (defBody (inClass (top 4) 0)) (defScope (inClass (top 4) 0)) .none .none dc_TooMany pm_TooMany an_TooMany cd_TooMany ct_TooMany), sl_TooMany⟩)
    (c_TooMany : PySem.W.codeIn K cd_TooMany "TooMany.__init__" = true)
    (ic_BadValue : PySem.W.isClsIn K D_BadValue = true)
    (sb_BadValue_BadValue : PySem.W.subIn K (.ref D_BadValue) (.ref D_BadValue) = some true)
    (sb_TooMany_BadValue : PySem.W.subIn K (.ref D_TooMany) (.ref D_BadValue) = some false)
    (ic_TooMany : PySem.W.isClsIn K D_TooMany = true)
    (sb_BadValue_TooMany : PySem.W.subIn K (.ref D_BadValue) (.ref D_TooMany) = some false)
    (sb_TooMany_TooMany : PySem.W.subIn K (.ref D_TooMany) (.ref D_TooMany) = some true)
    (a_is_integer : PySem.W.nsIn K mainGlobals "is_integer" = some (some (.ref f_is_integer)))
    (l_is_integer : K.lookup f_is_integer = some ⟨oc_is_integer, od_is_integer, .func (PySem.W.fnOf "is_integer" "is_integer" (defArgs s_is_integer) (defBody s_is_integer) (defScope s_is_integer) .none kV_is_integer dc_is_integer pm_is_integer an_is_integer cd_is_integer ct_is_integer), sl_is_integer⟩)
    (c_is_integer : PySem.W.codeIn K cd_is_integer "is_integer" = true)
    (k_is_integer_ : PySem.W.keepIn K (.ref f_is_integer) = true)
    (a_is_integer_within : PySem.W.nsIn K mainGlobals "is_integer_within" = some (some (.ref f_is_integer_within)))
    (l_is_integer_within : K.lookup f_is_integer_within = some ⟨oc_is_integer_within, od_is_integer_within, .func (PySem.W.fnOf "is_integer_within" "is_integer_within" (defArgs s_is_integer_within) (defBody s_is_integer_within) (defScope s_is_integer_within) .none kV_is_integer_within dc_is_integer_within pm_is_integer_within an_is_integer_within cd_is_integer_within ct_is_integer_within), sl_is_integer_within⟩)
    (c_is_integer_within : PySem.W.codeIn K cd_is_integer_within "is_integer_within" = true)
    (k_is_integer_within_ : PySem.W.keepIn K (.ref f_is_integer_within) = true)
    (a_is_sequence : PySem.W.nsIn K mainGlobals "is_sequence" = some (some (.ref f_is_sequence)))
    (l_is_sequence : K.lookup f_is_sequence = some ⟨oc_is_sequence, od_is_sequence, .func (PySem.W.fnOf "is_sequence" "is_sequence" (defArgs s_is_sequence) (defBody s_is_sequence) (defScope s_is_sequence) .none kV_is_sequence dc_is_sequence pm_is_sequence an_is_sequence cd_is_sequence ct_is_sequence), sl_is_sequence⟩)
    (c_is_sequence : PySem.W.codeIn K cd_is_sequence "is_sequence" = true)
    (k_is_sequence_ : PySem.W.keepIn K (.ref f_is_sequence) = true)
    (a_is_fraction : PySem.W.nsIn K mainGlobals "is_fraction" = some (some (.ref f_is_fraction)))
    (l_is_fraction : K.lookup f_is_fraction = some ⟨oc_is_fraction, od_is_fraction, .func (PySem.W.fnOf "is_fraction" "is_fraction" (defArgs s_is_fraction) (defBody s_is_fraction) (defScope s_is_fraction) .none kV_is_fraction dc_is_fraction pm_is_fraction an_is_fraction cd_is_fraction ct_is_fraction), sl_is_fraction⟩)
    (c_is_fraction : PySem.W.codeIn K cd_is_fraction "is_fraction" = true)
    (k_is_fraction_ : PySem.W.keepIn K (.ref f_is_fraction) = true)
    (a_is_amount : PySem.W.nsIn K mainGlobals "is_amount" = some (some (.ref f_is_amount)))
    (l_is_amount : K.lookup f_is_amount = some ⟨oc_is_amount, od_is_amount, .func (PySem.W.fnOf "is_amount" "is_amount" (defArgs s_is_amount) (defBody s_is_amount) (defScope s_is_amount) .none kV_is_amount dc_is_amount pm_is_amount an_is_amount cd_is_amount ct_is_amount), sl_is_amount⟩)
    (c_is_amount : PySem.W.codeIn K cd_is_amount "is_amount" = true)
    (k_is_amount_ : PySem.W.keepIn K (.ref f_is_amount) = true)
    (a_fraction : PySem.W.nsIn K mainGlobals "fraction" = some (some (.ref f_fraction)))
    (l_fraction : K.lookup f_fraction = some ⟨oc_fraction, od_fraction, .func (PySem.W.fnOf "fraction" "fraction" (defArgs s_fraction) (defBody s_fraction) (defScope s_fraction) .none kV_fraction dc_fraction pm_fraction an_fraction cd_fraction ct_fraction), sl_fraction⟩)
    (c_fraction : PySem.W.codeIn K cd_fraction "fraction" = true)
    (k_fraction_ : PySem.W.keepIn K (.ref f_fraction) = true)
    (a_plus : PySem.W.nsIn K mainGlobals "plus" = some (some (.ref f_plus)))
    (l_plus : K.lookup f_plus = some ⟨oc_plus, od_plus, .func (PySem.W.fnOf "plus" "plus" (defArgs s_plus) (defBody s_plus) (defScope s_plus) .none kV_plus dc_plus pm_plus an_plus cd_plus ct_plus), sl_plus⟩)
    (c_plus : PySem.W.codeIn K cd_plus "plus" = true)
    (k_plus_ : PySem.W.keepIn K (.ref f_plus) = true)
    (a_minus : PySem.W.nsIn K mainGlobals "minus" = some (some (.ref f_minus)))
    (l_minus : K.lookup f_minus = some ⟨oc_minus, od_minus, .func (PySem.W.fnOf "minus" "minus" (defArgs s_minus) (defBody s_minus) (defScope s_minus) .none kV_minus dc_minus pm_minus an_minus cd_minus ct_minus), sl_minus⟩)
    (c_minus : PySem.W.codeIn K cd_minus "minus" = true)
    (k_minus_ : PySem.W.keepIn K (.ref f_minus) = true)
    (a_times : PySem.W.nsIn K mainGlobals "times" = some (some (.ref f_times)))
    (l_times : K.lookup f_times = some ⟨oc_times, od_times, .func (PySem.W.fnOf "times" "times" (defArgs s_times) (defBody s_times) (defScope s_times) .none kV_times dc_times pm_times an_times cd_times ct_times), sl_times⟩)
    (c_times : PySem.W.codeIn K cd_times "times" = true)
    (k_times_ : PySem.W.keepIn K (.ref f_times) = true)
    (a_one_over : PySem.W.nsIn K mainGlobals "one_over" = some (some (.ref f_one_over)))
    (l_one_over : K.lookup f_one_over = some ⟨oc_one_over, od_one_over, .func (PySem.W.fnOf "one_over" "one_over" (defArgs s_one_over) (defBody s_one_over) (defScope s_one_over) .none kV_one_over dc_one_over pm_one_over an_one_over cd_one_over ct_one_over), sl_one_over⟩)
    (c_one_over : PySem.W.codeIn K cd_one_over "one_over" = true)
    (k_one_over_ : PySem.W.keepIn K (.ref f_one_over) = true)
    (a_is_below : PySem.W.nsIn K mainGlobals "is_below" = some (some (.ref f_is_below)))
    (l_is_below : K.lookup f_is_below = some ⟨oc_is_below, od_is_below, .func (PySem.W.fnOf "is_below" "is_below" (defArgs s_is_below) (defBody s_is_below) (defScope s_is_below) .none kV_is_below dc_is_below pm_is_below an_is_below cd_is_below ct_is_below), sl_is_below⟩)
    (c_is_below : PySem.W.codeIn K cd_is_below "is_below" = true)
    (k_is_below_ : PySem.W.keepIn K (.ref f_is_below) = true)
    (a_least_of : PySem.W.nsIn K mainGlobals "least_of" = some (some (.ref f_least_of)))
    (l_least_of : K.lookup f_least_of = some ⟨oc_least_of, od_least_of, .func (PySem.W.fnOf "least_of" "least_of" (defArgs s_least_of) (defBody s_least_of) (defScope s_least_of) .none kV_least_of dc_least_of pm_least_of an_least_of cd_least_of ct_least_of), sl_least_of⟩)
    (c_least_of : PySem.W.codeIn K cd_least_of "least_of" = true)
    (k_least_of_ : PySem.W.keepIn K (.ref f_least_of) = true)
    (a_total : PySem.W.nsIn K mainGlobals "total" = some (some (.ref f_total)))
    (l_total : K.lookup f_total = some ⟨oc_total, od_total, .func (PySem.W.fnOf "total" "total" (defArgs s_total) (defBody s_total) (defScope s_total) .none kV_total dc_total pm_total an_total cd_total ct_total), sl_total⟩)
    (c_total : PySem.W.codeIn K cd_total "total" = true)
    (k_total_ : PySem.W.keepIn K (.ref f_total) = true)
    (a__is_kept : PySem.W.nsIn K mainGlobals "_is_kept" = some (some (.ref f__is_kept)))
    (l__is_kept : K.lookup f__is_kept = some ⟨oc__is_kept, od__is_kept, .func (PySem.W.fnOf "_is_kept" "_is_kept" (defArgs s__is_kept) (defBody s__is_kept) (defScope s__is_kept) .none kV__is_kept dc__is_kept pm__is_kept an__is_kept cd__is_kept ct__is_kept), sl__is_kept⟩)
    (c__is_kept : PySem.W.codeIn K cd__is_kept "_is_kept" = true)
    (k__is_kept_ : PySem.W.keepIn K (.ref f__is_kept) = true)
    (a__is_step : PySem.W.nsIn K mainGlobals "_is_step" = some (some (.ref f__is_step)))
    (l__is_step : K.lookup f__is_step = some ⟨oc__is_step, od__is_step, .func (PySem.W.fnOf "_is_step" "_is_step" (defArgs s__is_step) (defBody s__is_step) (defScope s__is_step) .none kV__is_step dc__is_step pm__is_step an__is_step cd__is_step ct__is_step), sl__is_step⟩)
    (c__is_step : PySem.W.codeIn K cd__is_step "_is_step" = true)
    (k__is_step_ : PySem.W.keepIn K (.ref f__is_step) = true)
    (a__need_pool : PySem.W.nsIn K mainGlobals "_need_pool" = some (some (.ref f__need_pool)))
    (l__need_pool : K.lookup f__need_pool = some ⟨oc__need_pool, od__need_pool, .func (PySem.W.fnOf "_need_pool" "_need_pool" (defArgs s__need_pool) (defBody s__need_pool) (defScope s__need_pool) .none kV__need_pool dc__need_pool pm__need_pool an__need_pool cd__need_pool ct__need_pool), sl__need_pool⟩)
    (c__need_pool : PySem.W.codeIn K cd__need_pool "_need_pool" = true)
    (k__need_pool_ : PySem.W.keepIn K (.ref f__need_pool) = true)
    (a__need_stakes : PySem.W.nsIn K mainGlobals "_need_stakes" = some (some (.ref f__need_stakes)))
    (l__need_stakes : K.lookup f__need_stakes = some ⟨oc__need_stakes, od__need_stakes, .func (PySem.W.fnOf "_need_stakes" "_need_stakes" (defArgs s__need_stakes) (defBody s__need_stakes) (defScope s__need_stakes) .none kV__need_stakes dc__need_stakes pm__need_stakes an__need_stakes cd__need_stakes ct__need_stakes), sl__need_stakes⟩)
    (c__need_stakes : PySem.W.codeIn K cd__need_stakes "_need_stakes" = true)
    (k__need_stakes_ : PySem.W.keepIn K (.ref f__need_stakes) = true)
    (a__returned : PySem.W.nsIn K mainGlobals "_returned" = some (some (.ref f__returned)))
    (l__returned : K.lookup f__returned = some ⟨oc__returned, od__returned, .func (PySem.W.fnOf "_returned" "_returned" (defArgs s__returned) (defBody s__returned) (defScope s__returned) .none kV__returned dc__returned pm__returned an__returned cd__returned ct__returned), sl__returned⟩)
    (c__returned : PySem.W.codeIn K cd__returned "_returned" = true)
    (k__returned_ : PySem.W.keepIn K (.ref f__returned) = true)
    (a__payment : PySem.W.nsIn K mainGlobals "_payment" = some (some (.ref f__payment)))
    (l__payment : K.lookup f__payment = some ⟨oc__payment, od__payment, .func (PySem.W.fnOf "_payment" "_payment" (defArgs s__payment) (defBody s__payment) (defScope s__payment) .none kV__payment dc__payment pm__payment an__payment cd__payment ct__payment), sl__payment⟩)
    (c__payment : PySem.W.codeIn K cd__payment "_payment" = true)
    (k__payment_ : PySem.W.keepIn K (.ref f__payment) = true)
    (a_payments : PySem.W.nsIn K mainGlobals "payments" = some (some (.ref f_payments)))
    (l_payments : K.lookup f_payments = some ⟨oc_payments, od_payments, .func (PySem.W.fnOf "payments" "payments" (defArgs s_payments) (defBody s_payments) (defScope s_payments) .none kV_payments dc_payments pm_payments an_payments cd_payments ct_payments), sl_payments⟩)
    (c_payments : PySem.W.codeIn K cd_payments "payments" = true)
    (k_payments_ : PySem.W.keepIn K (.ref f_payments) = true)
    (a__is_payment : PySem.W.nsIn K mainGlobals "_is_payment" = some (some (.ref f__is_payment)))
    (l__is_payment : K.lookup f__is_payment = some ⟨oc__is_payment, od__is_payment, .func (PySem.W.fnOf "_is_payment" "_is_payment" (defArgs s__is_payment) (defBody s__is_payment) (defScope s__is_payment) .none kV__is_payment dc__is_payment pm__is_payment an__is_payment cd__is_payment ct__is_payment), sl__is_payment⟩)
    (c__is_payment : PySem.W.codeIn K cd__is_payment "_is_payment" = true)
    (k__is_payment_ : PySem.W.keepIn K (.ref f__is_payment) = true)
    (a__need_row : PySem.W.nsIn K mainGlobals "_need_row" = some (some (.ref f__need_row)))
    (l__need_row : K.lookup f__need_row = some ⟨oc__need_row, od__need_row, .func (PySem.W.fnOf "_need_row" "_need_row" (defArgs s__need_row) (defBody s__need_row) (defScope s__need_row) .none kV__need_row dc__need_row pm__need_row an__need_row cd__need_row ct__need_row), sl__need_row⟩)
    (c__need_row : PySem.W.codeIn K cd__need_row "_need_row" = true)
    (k__need_row_ : PySem.W.keepIn K (.ref f__need_row) = true)
    (a__bound : PySem.W.nsIn K mainGlobals "_bound" = some (some (.ref f__bound)))
    (l__bound : K.lookup f__bound = some ⟨oc__bound, od__bound, .func (PySem.W.fnOf "_bound" "_bound" (defArgs s__bound) (defBody s__bound) (defScope s__bound) .none kV__bound dc__bound pm__bound an__bound cd__bound ct__bound), sl__bound⟩)
    (c__bound : PySem.W.codeIn K cd__bound "_bound" = true)
    (k__bound_ : PySem.W.keepIn K (.ref f__bound) = true)
    (a__bounds : PySem.W.nsIn K mainGlobals "_bounds" = some (some (.ref f__bounds)))
    (l__bounds : K.lookup f__bounds = some ⟨oc__bounds, od__bounds, .func (PySem.W.fnOf "_bounds" "_bounds" (defArgs s__bounds) (defBody s__bounds) (defScope s__bounds) .none kV__bounds dc__bounds pm__bounds an__bounds cd__bounds ct__bounds), sl__bounds⟩)
    (c__bounds : PySem.W.codeIn K cd__bounds "_bounds" = true)
    (k__bounds_ : PySem.W.keepIn K (.ref f__bounds) = true)
    (a_spread : PySem.W.nsIn K mainGlobals "spread" = some (some (.ref f_spread)))
    (l_spread : K.lookup f_spread = some ⟨oc_spread, od_spread, .func (PySem.W.fnOf "spread" "spread" (defArgs s_spread) (defBody s_spread) (defScope s_spread) .none kV_spread dc_spread pm_spread an_spread cd_spread ct_spread), sl_spread⟩)
    (c_spread : PySem.W.codeIn K cd_spread "spread" = true)
    (k_spread_ : PySem.W.keepIn K (.ref f_spread) = true)
    (a_comes : PySem.W.nsIn K mainGlobals "comes" = some (some (.ref f_comes)))
    (l_comes : K.lookup f_comes = some ⟨oc_comes, od_comes, .func (PySem.W.fnOf "comes" "comes" (defArgs s_comes) (defBody s_comes) (defScope s_comes) .none kV_comes dc_comes pm_comes an_comes cd_comes ct_comes), sl_comes⟩)
    (c_comes : PySem.W.codeIn K cd_comes "comes" = true)
    (k_comes_ : PySem.W.keepIn K (.ref f_comes) = true)
    (a__can_come_to : PySem.W.nsIn K mainGlobals "_can_come_to" = some (some (.ref f__can_come_to)))
    (l__can_come_to : K.lookup f__can_come_to = some ⟨oc__can_come_to, od__can_come_to, .func (PySem.W.fnOf "_can_come_to" "_can_come_to" (defArgs s__can_come_to) (defBody s__can_come_to) (defScope s__can_come_to) .none kV__can_come_to dc__can_come_to pm__can_come_to an__can_come_to cd__can_come_to ct__can_come_to), sl__can_come_to⟩)
    (c__can_come_to : PySem.W.codeIn K cd__can_come_to "_can_come_to" = true)
    (k__can_come_to_ : PySem.W.keepIn K (.ref f__can_come_to) = true)
    (a__limits : PySem.W.nsIn K mainGlobals "_limits" = some (some (.ref f__limits)))
    (l__limits : K.lookup f__limits = some ⟨oc__limits, od__limits, .func (PySem.W.fnOf "_limits" "_limits" (defArgs s__limits) (defBody s__limits) (defScope s__limits) .none kV__limits dc__limits pm__limits an__limits cd__limits ct__limits), sl__limits⟩)
    (c__limits : PySem.W.codeIn K cd__limits "_limits" = true)
    (k__limits_ : PySem.W.keepIn K (.ref f__limits) = true)
    (a__first_stakes : PySem.W.nsIn K mainGlobals "_first_stakes" = some (some (.ref f__first_stakes)))
    (l__first_stakes : K.lookup f__first_stakes = some ⟨oc__first_stakes, od__first_stakes, .func (PySem.W.fnOf "_first_stakes" "_first_stakes" (defArgs s__first_stakes) (defBody s__first_stakes) (defScope s__first_stakes) .none kV__first_stakes dc__first_stakes pm__first_stakes an__first_stakes cd__first_stakes ct__first_stakes), sl__first_stakes⟩)
    (c__first_stakes : PySem.W.codeIn K cd__first_stakes "_first_stakes" = true)
    (k__first_stakes_ : PySem.W.keepIn K (.ref f__first_stakes) = true)
    (a_least_stakes : PySem.W.nsIn K mainGlobals "least_stakes" = some (some (.ref f_least_stakes)))
    (l_least_stakes : K.lookup f_least_stakes = some ⟨oc_least_stakes, od_least_stakes, .func (PySem.W.fnOf "least_stakes" "least_stakes" (defArgs s_least_stakes) (defBody s_least_stakes) (defScope s_least_stakes) .none kV_least_stakes dc_least_stakes pm_least_stakes an_least_stakes cd_least_stakes ct_least_stakes), sl_least_stakes⟩)
    (c_least_stakes : PySem.W.codeIn K cd_least_stakes "least_stakes" = true)
    (k_least_stakes_ : PySem.W.keepIn K (.ref f_least_stakes) = true)
    (a__are_own : PySem.W.nsIn K mainGlobals "_are_own" = some (some (.ref f__are_own)))
    (l__are_own : K.lookup f__are_own = some ⟨oc__are_own, od__are_own, .func (PySem.W.fnOf "_are_own" "_are_own" (defArgs s__are_own) (defBody s__are_own) (defScope s__are_own) .none kV__are_own dc__are_own pm__are_own an__are_own cd__are_own ct__are_own), sl__are_own⟩)
    (c__are_own : PySem.W.codeIn K cd__are_own "_are_own" = true)
    (k__are_own_ : PySem.W.keepIn K (.ref f__are_own) = true)
    (a__won : PySem.W.nsIn K mainGlobals "_won" = some (some (.ref f__won)))
    (l__won : K.lookup f__won = some ⟨oc__won, od__won, .func (PySem.W.fnOf "_won" "_won" (defArgs s__won) (defBody s__won) (defScope s__won) .none kV__won dc__won pm__won an__won cd__won ct__won), sl__won⟩)
    (c__won : PySem.W.codeIn K cd__won "_won" = true)
    (k__won_ : PySem.W.keepIn K (.ref f__won) = true)
    (a_pool_gain : PySem.W.nsIn K mainGlobals "pool_gain" = some (some (.ref f_pool_gain)))
    (l_pool_gain : K.lookup f_pool_gain = some ⟨oc_pool_gain, od_pool_gain, .func (PySem.W.fnOf "pool_gain" "pool_gain" (defArgs s_pool_gain) (defBody s_pool_gain) (defScope s_pool_gain) .none kV_pool_gain dc_pool_gain pm_pool_gain an_pool_gain cd_pool_gain ct_pool_gain), sl_pool_gain⟩)
    (c_pool_gain : PySem.W.codeIn K cd_pool_gain "pool_gain" = true)
    (k_pool_gain_ : PySem.W.keepIn K (.ref f_pool_gain) = true)
    (a__law_so : PySem.W.nsIn K mainGlobals "_law_so" = some (some (.ref f__law_so)))
    (l__law_so : K.lookup f__law_so = some ⟨oc__law_so, od__law_so, .func (PySem.W.fnOf "_law_so" "_law_so" (defArgs s__law_so) (defBody s__law_so) (defScope s__law_so) .none kV__law_so dc__law_so pm__law_so an__law_so cd__law_so ct__law_so), sl__law_so⟩)
    (c__law_so : PySem.W.codeIn K cd__law_so "_law_so" = true)
    (k__law_so_ : PySem.W.keepIn K (.ref f__law_so) = true)
    (a__law_numbers : PySem.W.nsIn K mainGlobals "_law_numbers" = some (some (.ref f__law_numbers)))
    (l__law_numbers : K.lookup f__law_numbers = some ⟨oc__law_numbers, od__law_numbers, .func (PySem.W.fnOf "_law_numbers" "_law_numbers" (defArgs s__law_numbers) (defBody s__law_numbers) (defScope s__law_numbers) .none kV__law_numbers dc__law_numbers pm__law_numbers an__law_numbers cd__law_numbers ct__law_numbers), sl__law_numbers⟩)
    (c__law_numbers : PySem.W.codeIn K cd__law_numbers "_law_numbers" = true)
    (k__law_numbers_ : PySem.W.keepIn K (.ref f__law_numbers) = true)
    (a__law_draw : PySem.W.nsIn K mainGlobals "_law_draw" = some (some (.ref f__law_draw)))
    (l__law_draw : K.lookup f__law_draw = some ⟨oc__law_draw, od__law_draw, .func (PySem.W.fnOf "_law_draw" "_law_draw" (defArgs s__law_draw) (defBody s__law_draw) (defScope s__law_draw) .none kV__law_draw dc__law_draw pm__law_draw an__law_draw cd__law_draw ct__law_draw), sl__law_draw⟩)
    (c__law_draw : PySem.W.codeIn K cd__law_draw "_law_draw" = true)
    (k__law_draw_ : PySem.W.keepIn K (.ref f__law_draw) = true)
    (a__law_take : PySem.W.nsIn K mainGlobals "_law_take" = some (some (.ref f__law_take)))
    (l__law_take : K.lookup f__law_take = some ⟨oc__law_take, od__law_take, .func (PySem.W.fnOf "_law_take" "_law_take" (defArgs s__law_take) (defBody s__law_take) (defScope s__law_take) .none kV__law_take dc__law_take pm__law_take an__law_take cd__law_take ct__law_take), sl__law_take⟩)
    (c__law_take : PySem.W.codeIn K cd__law_take "_law_take" = true)
    (k__law_take_ : PySem.W.keepIn K (.ref f__law_take) = true)
    (a__law_loose : PySem.W.nsIn K mainGlobals "_law_loose" = some (some (.ref f__law_loose)))
    (l__law_loose : K.lookup f__law_loose = some ⟨oc__law_loose, od__law_loose, .func (PySem.W.fnOf "_law_loose" "_law_loose" (defArgs s__law_loose) (defBody s__law_loose) (defScope s__law_loose) .none kV__law_loose dc__law_loose pm__law_loose an__law_loose cd__law_loose ct__law_loose), sl__law_loose⟩)
    (c__law_loose : PySem.W.codeIn K cd__law_loose "_law_loose" = true)
    (k__law_loose_ : PySem.W.keepIn K (.ref f__law_loose) = true)
    (a__law_numeric : PySem.W.nsIn K mainGlobals "_law_numeric" = some (some (.ref f__law_numeric)))
    (l__law_numeric : K.lookup f__law_numeric = some ⟨oc__law_numeric, od__law_numeric, .func (PySem.W.fnOf "_law_numeric" "_law_numeric" (defArgs s__law_numeric) (defBody s__law_numeric) (defScope s__law_numeric) .none kV__law_numeric dc__law_numeric pm__law_numeric an__law_numeric cd__law_numeric ct__law_numeric), sl__law_numeric⟩)
    (c__law_numeric : PySem.W.codeIn K cd__law_numeric "_law_numeric" = true)
    (k__law_numeric_ : PySem.W.keepIn K (.ref f__law_numeric) = true)
    (a__law_gcd : PySem.W.nsIn K mainGlobals "_law_gcd" = some (some (.ref f__law_gcd)))
    (l__law_gcd : K.lookup f__law_gcd = some ⟨oc__law_gcd, od__law_gcd, .func (PySem.W.fnOf "_law_gcd" "_law_gcd" (defArgs s__law_gcd) (defBody s__law_gcd) (defScope s__law_gcd) .none kV__law_gcd dc__law_gcd pm__law_gcd an__law_gcd cd__law_gcd ct__law_gcd), sl__law_gcd⟩)
    (c__law_gcd : PySem.W.codeIn K cd__law_gcd "_law_gcd" = true)
    (k__law_gcd_ : PySem.W.keepIn K (.ref f__law_gcd) = true)
    (a__law_frac : PySem.W.nsIn K mainGlobals "_law_frac" = some (some (.ref f__law_frac)))
    (l__law_frac : K.lookup f__law_frac = some ⟨oc__law_frac, od__law_frac, .func (PySem.W.fnOf "_law_frac" "_law_frac" (defArgs s__law_frac) (defBody s__law_frac) (defScope s__law_frac) .none kV__law_frac dc__law_frac pm__law_frac an__law_frac cd__law_frac ct__law_frac), sl__law_frac⟩)
    (c__law_frac : PySem.W.codeIn K cd__law_frac "_law_frac" = true)
    (k__law_frac_ : PySem.W.keepIn K (.ref f__law_frac) = true)
    (a__law_plus : PySem.W.nsIn K mainGlobals "_law_plus" = some (some (.ref f__law_plus)))
    (l__law_plus : K.lookup f__law_plus = some ⟨oc__law_plus, od__law_plus, .func (PySem.W.fnOf "_law_plus" "_law_plus" (defArgs s__law_plus) (defBody s__law_plus) (defScope s__law_plus) .none kV__law_plus dc__law_plus pm__law_plus an__law_plus cd__law_plus ct__law_plus), sl__law_plus⟩)
    (c__law_plus : PySem.W.codeIn K cd__law_plus "_law_plus" = true)
    (k__law_plus_ : PySem.W.keepIn K (.ref f__law_plus) = true)
    (a__law_times : PySem.W.nsIn K mainGlobals "_law_times" = some (some (.ref f__law_times)))
    (l__law_times : K.lookup f__law_times = some ⟨oc__law_times, od__law_times, .func (PySem.W.fnOf "_law_times" "_law_times" (defArgs s__law_times) (defBody s__law_times) (defScope s__law_times) .none kV__law_times dc__law_times pm__law_times an__law_times cd__law_times ct__law_times), sl__law_times⟩)
    (c__law_times : PySem.W.codeIn K cd__law_times "_law_times" = true)
    (k__law_times_ : PySem.W.keepIn K (.ref f__law_times) = true)
    (a__law_minus : PySem.W.nsIn K mainGlobals "_law_minus" = some (some (.ref f__law_minus)))
    (l__law_minus : K.lookup f__law_minus = some ⟨oc__law_minus, od__law_minus, .func (PySem.W.fnOf "_law_minus" "_law_minus" (defArgs s__law_minus) (defBody s__law_minus) (defScope s__law_minus) .none kV__law_minus dc__law_minus pm__law_minus an__law_minus cd__law_minus ct__law_minus), sl__law_minus⟩)
    (c__law_minus : PySem.W.codeIn K cd__law_minus "_law_minus" = true)
    (k__law_minus_ : PySem.W.keepIn K (.ref f__law_minus) = true)
    (a__law_below : PySem.W.nsIn K mainGlobals "_law_below" = some (some (.ref f__law_below)))
    (l__law_below : K.lookup f__law_below = some ⟨oc__law_below, od__law_below, .func (PySem.W.fnOf "_law_below" "_law_below" (defArgs s__law_below) (defBody s__law_below) (defScope s__law_below) .none kV__law_below dc__law_below pm__law_below an__law_below cd__law_below ct__law_below), sl__law_below⟩)
    (c__law_below : PySem.W.codeIn K cd__law_below "_law_below" = true)
    (k__law_below_ : PySem.W.keepIn K (.ref f__law_below) = true)
    (a__law_pool_fault : PySem.W.nsIn K mainGlobals "_law_pool_fault" = some (some (.ref f__law_pool_fault)))
    (l__law_pool_fault : K.lookup f__law_pool_fault = some ⟨oc__law_pool_fault, od__law_pool_fault, .func (PySem.W.fnOf "_law_pool_fault" "_law_pool_fault" (defArgs s__law_pool_fault) (defBody s__law_pool_fault) (defScope s__law_pool_fault) .none kV__law_pool_fault dc__law_pool_fault pm__law_pool_fault an__law_pool_fault cd__law_pool_fault ct__law_pool_fault), sl__law_pool_fault⟩)
    (c__law_pool_fault : PySem.W.codeIn K cd__law_pool_fault "_law_pool_fault" = true)
    (k__law_pool_fault_ : PySem.W.keepIn K (.ref f__law_pool_fault) = true)
    (a__law_pool : PySem.W.nsIn K mainGlobals "_law_pool" = some (some (.ref f__law_pool)))
    (l__law_pool : K.lookup f__law_pool = some ⟨oc__law_pool, od__law_pool, .func (PySem.W.fnOf "_law_pool" "_law_pool" (defArgs s__law_pool) (defBody s__law_pool) (defScope s__law_pool) .none kV__law_pool dc__law_pool pm__law_pool an__law_pool cd__law_pool ct__law_pool), sl__law_pool⟩)
    (c__law_pool : PySem.W.codeIn K cd__law_pool "_law_pool" = true)
    (k__law_pool_ : PySem.W.keepIn K (.ref f__law_pool) = true)
    (a__law_pool_stakes : PySem.W.nsIn K mainGlobals "_law_pool_stakes" = some (some (.ref f__law_pool_stakes)))
    (l__law_pool_stakes : K.lookup f__law_pool_stakes = some ⟨oc__law_pool_stakes, od__law_pool_stakes, .func (PySem.W.fnOf "_law_pool_stakes" "_law_pool_stakes" (defArgs s__law_pool_stakes) (defBody s__law_pool_stakes) (defScope s__law_pool_stakes) .none kV__law_pool_stakes dc__law_pool_stakes pm__law_pool_stakes an__law_pool_stakes cd__law_pool_stakes ct__law_pool_stakes), sl__law_pool_stakes⟩)
    (c__law_pool_stakes : PySem.W.codeIn K cd__law_pool_stakes "_law_pool_stakes" = true)
    (k__law_pool_stakes_ : PySem.W.keepIn K (.ref f__law_pool_stakes) = true)
    (a__law_payments : PySem.W.nsIn K mainGlobals "_law_payments" = some (some (.ref f__law_payments)))
    (l__law_payments : K.lookup f__law_payments = some ⟨oc__law_payments, od__law_payments, .func (PySem.W.fnOf "_law_payments" "_law_payments" (defArgs s__law_payments) (defBody s__law_payments) (defScope s__law_payments) .none kV__law_payments dc__law_payments pm__law_payments an__law_payments cd__law_payments ct__law_payments), sl__law_payments⟩)
    (c__law_payments : PySem.W.codeIn K cd__law_payments "_law_payments" = true)
    (k__law_payments_ : PySem.W.keepIn K (.ref f__law_payments) = true)
    (a__law_spread : PySem.W.nsIn K mainGlobals "_law_spread" = some (some (.ref f__law_spread)))
    (l__law_spread : K.lookup f__law_spread = some ⟨oc__law_spread, od__law_spread, .func (PySem.W.fnOf "_law_spread" "_law_spread" (defArgs s__law_spread) (defBody s__law_spread) (defScope s__law_spread) .none kV__law_spread dc__law_spread pm__law_spread an__law_spread cd__law_spread ct__law_spread), sl__law_spread⟩)
    (c__law_spread : PySem.W.codeIn K cd__law_spread "_law_spread" = true)
    (k__law_spread_ : PySem.W.keepIn K (.ref f__law_spread) = true)
    (a__law_comes : PySem.W.nsIn K mainGlobals "_law_comes" = some (some (.ref f__law_comes)))
    (l__law_comes : K.lookup f__law_comes = some ⟨oc__law_comes, od__law_comes, .func (PySem.W.fnOf "_law_comes" "_law_comes" (defArgs s__law_comes) (defBody s__law_comes) (defScope s__law_comes) .none kV__law_comes dc__law_comes pm__law_comes an__law_comes cd__law_comes ct__law_comes), sl__law_comes⟩)
    (c__law_comes : PySem.W.codeIn K cd__law_comes "_law_comes" = true)
    (k__law_comes_ : PySem.W.keepIn K (.ref f__law_comes) = true)
    (a__law_bounds : PySem.W.nsIn K mainGlobals "_law_bounds" = some (some (.ref f__law_bounds)))
    (l__law_bounds : K.lookup f__law_bounds = some ⟨oc__law_bounds, od__law_bounds, .func (PySem.W.fnOf "_law_bounds" "_law_bounds" (defArgs s__law_bounds) (defBody s__law_bounds) (defScope s__law_bounds) .none kV__law_bounds dc__law_bounds pm__law_bounds an__law_bounds cd__law_bounds ct__law_bounds), sl__law_bounds⟩)
    (c__law_bounds : PySem.W.codeIn K cd__law_bounds "_law_bounds" = true)
    (k__law_bounds_ : PySem.W.keepIn K (.ref f__law_bounds) = true)
    (a__law_least_sum : PySem.W.nsIn K mainGlobals "_law_least_sum" = some (some (.ref f__law_least_sum)))
    (l__law_least_sum : K.lookup f__law_least_sum = some ⟨oc__law_least_sum, od__law_least_sum, .func (PySem.W.fnOf "_law_least_sum" "_law_least_sum" (defArgs s__law_least_sum) (defBody s__law_least_sum) (defScope s__law_least_sum) .none kV__law_least_sum dc__law_least_sum pm__law_least_sum an__law_least_sum cd__law_least_sum ct__law_least_sum), sl__law_least_sum⟩)
    (c__law_least_sum : PySem.W.codeIn K cd__law_least_sum "_law_least_sum" = true)
    (k__law_least_sum_ : PySem.W.keepIn K (.ref f__law_least_sum) = true)
    (a__law_first_stakes : PySem.W.nsIn K mainGlobals "_law_first_stakes" = some (some (.ref f__law_first_stakes)))
    (l__law_first_stakes : K.lookup f__law_first_stakes = some ⟨oc__law_first_stakes, od__law_first_stakes, .func (PySem.W.fnOf "_law_first_stakes" "_law_first_stakes" (defArgs s__law_first_stakes) (defBody s__law_first_stakes) (defScope s__law_first_stakes) .none kV__law_first_stakes dc__law_first_stakes pm__law_first_stakes an__law_first_stakes cd__law_first_stakes ct__law_first_stakes), sl__law_first_stakes⟩)
    (c__law_first_stakes : PySem.W.codeIn K cd__law_first_stakes "_law_first_stakes" = true)
    (k__law_first_stakes_ : PySem.W.keepIn K (.ref f__law_first_stakes) = true)
    (a_law : PySem.W.nsIn K mainGlobals "law" = some (some (.ref f_law)))
    (l_law : K.lookup f_law = some ⟨oc_law, od_law, .func (PySem.W.fnOf "law" "law" (defArgs s_law) (defBody s_law) (defScope s_law) .none kV_law dc_law pm_law an_law cd_law ct_law), sl_law⟩)
    (c_law : PySem.W.codeIn K cd_law "law" = true)
    (k_law_ : PySem.W.keepIn K (.ref f_law) = true)
    : ∃ fd : FuncData, (∀ (s : Shared) (u : Value), BindsTo s fd ⟨[u], []⟩ [("script", u)]) ∧ ∀ base : Heap, K.In base → base.Ns mainGlobals mg → FnOk P w K mg base (L2.CX P w) 10 fa fd ["script"] (spL K) := by
  have e := hfa.symm.trans (PySem.W.mg_of X G a_law)
  cases e
  have E_BadValue := mk_err_at x_BadValue (by rfl) sa_BadValue ga_BadValue gg_BadValue nf_BadValue kc_BadValue ex_BadValue ty_BadValue hd_BadValue fi_BadValue ti_BadValue l_BadValue c_BadValue
  have E_TooMany := mk_err_word x_TooMany (by rfl) sa_TooMany ga_TooMany gg_TooMany nf_TooMany kc_TooMany ex_TooMany ty_TooMany hd_TooMany fi_TooMany ti_TooMany l_TooMany c_TooMany
  have TT : TX K mg (fun _ => 0) (fun n => if n = 0 then D_BadValue else D_TooMany) (fun n => if n = 0 then "at" else "word") := {
    b_abs := PySem.W.mg_none_of X G z_abs,
    b_all := PySem.W.mg_none_of X G z_all,
    b_any := PySem.W.mg_none_of X G z_any,
    b_bool := PySem.W.mg_none_of X G z_bool,
    b_int := PySem.W.mg_none_of X G z_int,
    b_isinstance := PySem.W.mg_none_of X G z_isinstance,
    b_len := PySem.W.mg_none_of X G z_len,
    b_list := PySem.W.mg_none_of X G z_list,
    b_max := PySem.W.mg_none_of X G z_max,
    b_min := PySem.W.mg_none_of X G z_min,
    b_range := PySem.W.mg_none_of X G z_range,
    b_str := PySem.W.mg_none_of X G z_str,
    b_sum := PySem.W.mg_none_of X G z_sum,
    b_tuple := PySem.W.mg_none_of X G z_tuple,
    b_zip := PySem.W.mg_none_of X G z_zip,
    g_gcd := PySem.W.mg_of X G z_gcd,
    k_ZERO := ⟨_, PySem.W.mg_of X G k_ZERO, _, _, _, kt_ZERO, rfl, rfl, le1000 (by show 2 ≤ 1000; decide), (.cons ⟨_, rfl⟩ (.cons ⟨_, rfl⟩ .nil))⟩,
    k_ONE := ⟨_, PySem.W.mg_of X G k_ONE, _, _, _, kt_ONE, rfl, rfl, le1000 (by show 2 ≤ 1000; decide), (.cons ⟨_, rfl⟩ (.cons ⟨_, rfl⟩ .nil))⟩,
    k_MOST_BOTTOM_OF_STEP := ⟨_, PySem.W.mg_of X G k_MOST_BOTTOM_OF_STEP⟩,
    k_MOST_RUNNERS := ⟨_, PySem.W.mg_of X G k_MOST_RUNNERS⟩,
    k_MOST_STAKE := ⟨_, PySem.W.mg_of X G k_MOST_STAKE⟩,
    k_MOST_IN_ALL := ⟨_, PySem.W.mg_of X G k_MOST_IN_ALL⟩,
    e_BadValue := E_BadValue,
    is_BadValue := fun k b hk => match k, hk with
      | 0, hk => (by have e : some true = some b := hk; cases e; exact exm_own ic_BadValue ty_BadValue ex_BadValue sb_BadValue_BadValue)
      | 1, hk => (by have e : some false = some b := hk; cases e; exact exm_own ic_BadValue ty_BadValue ex_BadValue sb_TooMany_BadValue)
      | k + 2, hk => (by have e : cat_BadValue (k + 2) = none := if_neg (by omega); rw [e] at hk; cases hk),
    it_BadValue := fun k hk => match k, hk with
      | 0, hk => (⟨rfl, E_BadValue⟩)
      | 1, hk => (by have e : some false = some true := hk; cases e)
      | k + 2, hk => (by have e : cat_BadValue (k + 2) = none := if_neg (by omega); rw [e] at hk; cases hk),
    ef_BadValue := rfl,
    em_BadValue := PySem.W.mg_of X G a_BadValue,
    e_TooMany := E_TooMany,
    is_TooMany := fun k b hk => match k, hk with
      | 0, hk => (by have e : some false = some b := hk; cases e; exact exm_own ic_TooMany ty_TooMany ex_TooMany sb_BadValue_TooMany)
      | 1, hk => (by have e : some true = some b := hk; cases e; exact exm_own ic_TooMany ty_TooMany ex_TooMany sb_TooMany_TooMany)
      | k + 2, hk => (by have e : cat_TooMany (k + 2) = none := if_neg (by omega); rw [e] at hk; cases hk),
    it_TooMany := fun k hk => match k, hk with
      | 0, hk => (by have e : some false = some true := hk; cases e)
      | 1, hk => (⟨rfl, E_TooMany⟩)
      | k + 2, hk => (by have e : cat_TooMany (k + 2) = none := if_neg (by omega); rw [e] at hk; cases hk),
    ef_TooMany := rfl,
    em_TooMany := PySem.W.mg_of X G a_TooMany,
    ai_int := fun c b hq => (by cases hq),
    an_int := fun t b hq => match t, b, hq with
      | .non, b, hq => (by cases hq; rfl)
      | .bl, b, hq => (by cases hq; rfl)
      | .int, b, hq => (by cases hq; rfl)
      | .str, b, hq => (by cases hq; rfl)
      | .tup, b, hq => (by cases hq; rfl)
      | .lst, b, hq => (by cases hq; rfl)
      | .cls c, b, hq => (by cases hq),
    ai_bool := fun c b hq => (by cases hq),
    an_bool := fun t b hq => match t, b, hq with
      | .non, b, hq => (by cases hq; rfl)
      | .bl, b, hq => (by cases hq; rfl)
      | .int, b, hq => (by cases hq; rfl)
      | .str, b, hq => (by cases hq; rfl)
      | .tup, b, hq => (by cases hq; rfl)
      | .lst, b, hq => (by cases hq; rfl)
      | .cls c, b, hq => (by cases hq),
    ai_list_tuple := fun c b hq => (by cases hq),
    an_list_tuple := fun t b hq => match t, b, hq with
      | .non, b, hq => (by cases hq; rfl)
      | .bl, b, hq => (by cases hq; rfl)
      | .int, b, hq => (by cases hq; rfl)
      | .str, b, hq => (by cases hq; rfl)
      | .tup, b, hq => (by cases hq; rfl)
      | .lst, b, hq => (by cases hq; rfl)
      | .cls c, b, hq => (by cases hq),
    ai_tuple := fun c b hq => (by cases hq),
    an_tuple := fun t b hq => match t, b, hq with
      | .non, b, hq => (by cases hq; rfl)
      | .bl, b, hq => (by cases hq; rfl)
      | .int, b, hq => (by cases hq; rfl)
      | .str, b, hq => (by cases hq; rfl)
      | .tup, b, hq => (by cases hq; rfl)
      | .lst, b, hq => (by cases hq; rfl)
      | .cls c, b, hq => (by cases hq),
    ai_str := fun c b hq => (by cases hq),
    an_str := fun t b hq => match t, b, hq with
      | .non, b, hq => (by cases hq; rfl)
      | .bl, b, hq => (by cases hq; rfl)
      | .int, b, hq => (by cases hq; rfl)
      | .str, b, hq => (by cases hq; rfl)
      | .tup, b, hq => (by cases hq; rfl)
      | .lst, b, hq => (by cases hq; rfl)
      | .cls c, b, hq => (by cases hq) }
  have FF_is_integer := fun_mk (st := s_is_integer) l_is_integer c_is_integer k_is_integer_
  have B_is_integer := FF_is_integer.binds (ps := ["value"]) fun _ _ _ _ _ _ us hl => match us, hl with | [_], _ => rfl
  have FF_is_integer_within := fun_mk (st := s_is_integer_within) l_is_integer_within c_is_integer_within k_is_integer_within_
  have B_is_integer_within := FF_is_integer_within.binds (ps := ["value", "least", "most"]) fun _ _ _ _ _ _ us hl => match us, hl with | [_, _, _], _ => rfl
  have FF_is_sequence := fun_mk (st := s_is_sequence) l_is_sequence c_is_sequence k_is_sequence_
  have B_is_sequence := FF_is_sequence.binds (ps := ["value"]) fun _ _ _ _ _ _ us hl => match us, hl with | [_], _ => rfl
  have FF_is_fraction := fun_mk (st := s_is_fraction) l_is_fraction c_is_fraction k_is_fraction_
  have B_is_fraction := FF_is_fraction.binds (ps := ["value"]) fun _ _ _ _ _ _ us hl => match us, hl with | [_], _ => rfl
  have FF_is_amount := fun_mk (st := s_is_amount) l_is_amount c_is_amount k_is_amount_
  have B_is_amount := FF_is_amount.binds (ps := ["value"]) fun _ _ _ _ _ _ us hl => match us, hl with | [_], _ => rfl
  have FF_fraction := fun_mk (st := s_fraction) l_fraction c_fraction k_fraction_
  have B_fraction := FF_fraction.binds (ps := ["top", "bottom"]) fun _ _ _ _ _ _ us hl => match us, hl with | [_, _], _ => rfl
  have FF_plus := fun_mk (st := s_plus) l_plus c_plus k_plus_
  have B_plus := FF_plus.binds (ps := ["left", "right"]) fun _ _ _ _ _ _ us hl => match us, hl with | [_, _], _ => rfl
  have FF_minus := fun_mk (st := s_minus) l_minus c_minus k_minus_
  have B_minus := FF_minus.binds (ps := ["left", "right"]) fun _ _ _ _ _ _ us hl => match us, hl with | [_, _], _ => rfl
  have FF_times := fun_mk (st := s_times) l_times c_times k_times_
  have B_times := FF_times.binds (ps := ["left", "right"]) fun _ _ _ _ _ _ us hl => match us, hl with | [_, _], _ => rfl
  have FF_one_over := fun_mk (st := s_one_over) l_one_over c_one_over k_one_over_
  have B_one_over := FF_one_over.binds (ps := ["number"]) fun _ _ _ _ _ _ us hl => match us, hl with | [_], _ => rfl
  have FF_is_below := fun_mk (st := s_is_below) l_is_below c_is_below k_is_below_
  have B_is_below := FF_is_below.binds (ps := ["left", "right"]) fun _ _ _ _ _ _ us hl => match us, hl with | [_, _], _ => rfl
  have FF_least_of := fun_mk (st := s_least_of) l_least_of c_least_of k_least_of_
  have B_least_of := FF_least_of.binds (ps := ["fractions"]) fun _ _ _ _ _ _ us hl => match us, hl with | [_], _ => rfl
  have FF_total := fun_mk (st := s_total) l_total c_total k_total_
  have B_total := FF_total.binds (ps := ["fractions"]) fun _ _ _ _ _ _ us hl => match us, hl with | [_], _ => rfl
  have FF__is_kept := fun_mk (st := s__is_kept) l__is_kept c__is_kept k__is_kept_
  have B__is_kept := FF__is_kept.binds (ps := ["value"]) fun _ _ _ _ _ _ us hl => match us, hl with | [_], _ => rfl
  have FF__is_step := fun_mk (st := s__is_step) l__is_step c__is_step k__is_step_
  have B__is_step := FF__is_step.binds (ps := ["value"]) fun _ _ _ _ _ _ us hl => match us, hl with | [_], _ => rfl
  have FF__need_pool := fun_mk (st := s__need_pool) l__need_pool c__need_pool k__need_pool_
  have B__need_pool := FF__need_pool.binds (ps := ["pool"]) fun _ _ _ _ _ _ us hl => match us, hl with | [_], _ => rfl
  have FF__need_stakes := fun_mk (st := s__need_stakes) l__need_stakes c__need_stakes k__need_stakes_
  have B__need_stakes := FF__need_stakes.binds (ps := ["pool", "stakes"]) fun _ _ _ _ _ _ us hl => match us, hl with | [_, _], _ => rfl
  have FF__returned := fun_mk (st := s__returned) l__returned c__returned k__returned_
  have B__returned := FF__returned.binds (ps := ["pool"]) fun _ _ _ _ _ _ us hl => match us, hl with | [_], _ => rfl
  have FF__payment := fun_mk (st := s__payment) l__payment c__payment k__payment_
  have B__payment := FF__payment.binds (ps := ["pool", "many", "stake"]) fun _ _ _ _ _ _ us hl => match us, hl with | [_, _, _], _ => rfl
  have FF_payments := fun_mk (st := s_payments) l_payments c_payments k_payments_
  have B_payments := FF_payments.binds (ps := ["pool", "stakes"]) fun _ _ _ _ _ _ us hl => match us, hl with | [_, _], _ => rfl
  have FF__is_payment := fun_mk (st := s__is_payment) l__is_payment c__is_payment k__is_payment_
  have B__is_payment := FF__is_payment.binds (ps := ["pool", "value"]) fun _ _ _ _ _ _ us hl => match us, hl with | [_, _], _ => rfl
  have FF__need_row := fun_mk (st := s__need_row) l__need_row c__need_row k__need_row_
  have B__need_row := FF__need_row.binds (ps := ["pool", "row"]) fun _ _ _ _ _ _ us hl => match us, hl with | [_, _], _ => rfl
  have FF__bound := fun_mk (st := s__bound) l__bound c__bound k__bound_
  have B__bound := FF__bound.binds (ps := ["pool", "paid"]) fun _ _ _ _ _ _ us hl => match us, hl with | [_, _], _ => rfl
  have FF__bounds := fun_mk (st := s__bounds) l__bounds c__bounds k__bounds_
  have B__bounds := FF__bounds.binds (ps := ["pool", "row"]) fun _ _ _ _ _ _ us hl => match us, hl with | [_, _], _ => rfl
  have FF_spread := fun_mk (st := s_spread) l_spread c_spread k_spread_
  have B_spread := FF_spread.binds (ps := ["pool", "row"]) fun _ _ _ _ _ _ us hl => match us, hl with | [_, _], _ => rfl
  have FF_comes := fun_mk (st := s_comes) l_comes c_comes k_comes_
  have B_comes := FF_comes.binds (ps := ["pool", "row"]) fun _ _ _ _ _ _ us hl => match us, hl with | [_, _], _ => rfl
  have FF__can_come_to := fun_mk (st := s__can_come_to) l__can_come_to c__can_come_to k__can_come_to_
  have B__can_come_to := FF__can_come_to.binds (ps := ["limits", "many"]) fun _ _ _ _ _ _ us hl => match us, hl with | [_, _], _ => rfl
  have FF__limits := fun_mk (st := s__limits) l__limits c__limits k__limits_
  have B__limits := FF__limits.binds (ps := ["bound", "many"]) fun _ _ _ _ _ _ us hl => match us, hl with | [_, _], _ => rfl
  have FF__first_stakes := fun_mk (st := s__first_stakes) l__first_stakes c__first_stakes k__first_stakes_
  have B__first_stakes := FF__first_stakes.binds (ps := ["limits", "many"]) fun _ _ _ _ _ _ us hl => match us, hl with | [_, _], _ => rfl
  have FF_least_stakes := fun_mk (st := s_least_stakes) l_least_stakes c_least_stakes k_least_stakes_
  have B_least_stakes := FF_least_stakes.binds (ps := ["pool", "row"]) fun _ _ _ _ _ _ us hl => match us, hl with | [_, _], _ => rfl
  have FF__are_own := fun_mk (st := s__are_own) l__are_own c__are_own k__are_own_
  have B__are_own := FF__are_own.binds (ps := ["stakes", "value"]) fun _ _ _ _ _ _ us hl => match us, hl with | [_, _], _ => rfl
  have FF__won := fun_mk (st := s__won) l__won c__won k__won_
  have B__won := FF__won.binds (ps := ["stake", "paid"]) fun _ _ _ _ _ _ us hl => match us, hl with | [_, _], _ => rfl
  have FF_pool_gain := fun_mk (st := s_pool_gain) l_pool_gain c_pool_gain k_pool_gain_
  have B_pool_gain := FF_pool_gain.binds (ps := ["pool", "stakes", "own"]) fun _ _ _ _ _ _ us hl => match us, hl with | [_, _, _], _ => rfl
  have FF__law_so := fun_mk (st := s__law_so) l__law_so c__law_so k__law_so_
  have B__law_so := FF__law_so.binds (ps := ["found", "meant"]) fun _ _ _ _ _ _ us hl => match us, hl with | [_, _], _ => rfl
  have FF__law_numbers := fun_mk (st := s__law_numbers) l__law_numbers c__law_numbers k__law_numbers_
  have B__law_numbers := FF__law_numbers.binds (ps := ["script"]) fun _ _ _ _ _ _ us hl => match us, hl with | [_], _ => rfl
  have FF__law_draw := fun_mk (st := s__law_draw) l__law_draw c__law_draw k__law_draw_
  have B__law_draw := FF__law_draw.binds (ps := ["row", "at", "limit"]) fun _ _ _ _ _ _ us hl => match us, hl with | [_, _, _], _ => rfl
  have FF__law_take := fun_mk (st := s__law_take) l__law_take c__law_take k__law_take_
  have B__law_take := FF__law_take.binds (ps := ["row", "spot", "limit"]) fun _ _ _ _ _ _ us hl => match us, hl with | [_, _, _], _ => rfl
  have FF__law_loose := fun_mk (st := s__law_loose) l__law_loose c__law_loose k__law_loose_
  have B__law_loose := FF__law_loose.binds (ps := ["value", "turn"]) fun _ _ _ _ _ _ us hl => match us, hl with | [_, _], _ => rfl
  have FF__law_numeric := fun_mk (st := s__law_numeric) l__law_numeric c__law_numeric k__law_numeric_
  have B__law_numeric := FF__law_numeric.binds (ps := ["value"]) fun _ _ _ _ _ _ us hl => match us, hl with | [_], _ => rfl
  have FF__law_gcd := fun_mk (st := s__law_gcd) l__law_gcd c__law_gcd k__law_gcd_
  have B__law_gcd := FF__law_gcd.binds (ps := ["first", "second"]) fun _ _ _ _ _ _ us hl => match us, hl with | [_, _], _ => rfl
  have FF__law_frac := fun_mk (st := s__law_frac) l__law_frac c__law_frac k__law_frac_
  have B__law_frac := FF__law_frac.binds (ps := ["top", "bottom"]) fun _ _ _ _ _ _ us hl => match us, hl with | [_, _], _ => rfl
  have FF__law_plus := fun_mk (st := s__law_plus) l__law_plus c__law_plus k__law_plus_
  have B__law_plus := FF__law_plus.binds (ps := ["first", "second"]) fun _ _ _ _ _ _ us hl => match us, hl with | [_, _], _ => rfl
  have FF__law_times := fun_mk (st := s__law_times) l__law_times c__law_times k__law_times_
  have B__law_times := FF__law_times.binds (ps := ["first", "second"]) fun _ _ _ _ _ _ us hl => match us, hl with | [_, _], _ => rfl
  have FF__law_minus := fun_mk (st := s__law_minus) l__law_minus c__law_minus k__law_minus_
  have B__law_minus := FF__law_minus.binds (ps := ["first", "second"]) fun _ _ _ _ _ _ us hl => match us, hl with | [_, _], _ => rfl
  have FF__law_below := fun_mk (st := s__law_below) l__law_below c__law_below k__law_below_
  have B__law_below := FF__law_below.binds (ps := ["first", "second"]) fun _ _ _ _ _ _ us hl => match us, hl with | [_, _], _ => rfl
  have FF__law_pool_fault := fun_mk (st := s__law_pool_fault) l__law_pool_fault c__law_pool_fault k__law_pool_fault_
  have B__law_pool_fault := FF__law_pool_fault.binds (ps := ["kind", "pool", "second", "third"]) fun _ _ _ _ _ _ us hl => match us, hl with | [_, _, _, _], _ => rfl
  have FF__law_pool := fun_mk (st := s__law_pool) l__law_pool c__law_pool k__law_pool_
  have B__law_pool := FF__law_pool.binds (ps := ["row", "spot"]) fun _ _ _ _ _ _ us hl => match us, hl with | [_, _], _ => rfl
  have FF__law_pool_stakes := fun_mk (st := s__law_pool_stakes) l__law_pool_stakes c__law_pool_stakes k__law_pool_stakes_
  have B__law_pool_stakes := FF__law_pool_stakes.binds (ps := ["row", "spot", "pool", "wide"]) fun _ _ _ _ _ _ us hl => match us, hl with | [_, _, _, _], _ => rfl
  have FF__law_payments := fun_mk (st := s__law_payments) l__law_payments c__law_payments k__law_payments_
  have B__law_payments := FF__law_payments.binds (ps := ["pool", "stakes"]) fun _ _ _ _ _ _ us hl => match us, hl with | [_, _], _ => rfl
  have FF__law_spread := fun_mk (st := s__law_spread) l__law_spread c__law_spread k__law_spread_
  have B__law_spread := FF__law_spread.binds (ps := ["pool", "wanted"]) fun _ _ _ _ _ _ us hl => match us, hl with | [_, _], _ => rfl
  have FF__law_comes := fun_mk (st := s__law_comes) l__law_comes c__law_comes k__law_comes_
  have B__law_comes := FF__law_comes.binds (ps := ["pool", "wanted"]) fun _ _ _ _ _ _ us hl => match us, hl with | [_, _], _ => rfl
  have FF__law_bounds := fun_mk (st := s__law_bounds) l__law_bounds c__law_bounds k__law_bounds_
  have B__law_bounds := FF__law_bounds.binds (ps := ["pool", "one", "total_v"]) fun _ _ _ _ _ _ us hl => match us, hl with | [_, _, _], _ => rfl
  have FF__law_least_sum := fun_mk (st := s__law_least_sum) l__law_least_sum c__law_least_sum k__law_least_sum_
  have B__law_least_sum := FF__law_least_sum.binds (ps := ["pool", "wanted", "most"]) fun _ _ _ _ _ _ us hl => match us, hl with | [_, _, _], _ => rfl
  have FF__law_first_stakes := fun_mk (st := s__law_first_stakes) l__law_first_stakes c__law_first_stakes k__law_first_stakes_
  have B__law_first_stakes := FF__law_first_stakes.binds (ps := ["pool", "wanted", "total_v"]) fun _ _ _ _ _ _ us hl => match us, hl with | [_, _, _], _ => rfl
  have FF_law := fun_mk (st := s_law) l_law c_law k_law_
  have B_law := FF_law.binds (ps := ["script"]) fun _ _ _ _ _ _ us hl => match us, hl with | [_], _ => rfl
  suffices hh : ∀ base : Heap, K.In base → base.Ns mainGlobals mg → FnOk P w K mg base (L2.CX P w) 10 fa (PySem.W.fnOf "law" "law" (defArgs s_law) (defBody s_law) (defScope s_law) .none kV_law dc_law pm_law an_law cd_law ct_law) ["script"] (spL K) from ⟨_, fun s u => .of_eq rfl, hh⟩
  intro base _ _
  have G_is_integer : Fn ⟨K, fun _ => 0, fun n => if n = 0 then D_BadValue else D_TooMany, fun n => if n = 0 then "at" else "word"⟩ P w mg base 1 "is_integer" 1 [] F_is_integer := fn_mk1 (ok_is_integer FF_is_integer TT) (PySem.W.mg_of X G a_is_integer) k_is_integer_ B_is_integer
  have G_is_integer_within : Fn ⟨K, fun _ => 0, fun n => if n = 0 then D_BadValue else D_TooMany, fun n => if n = 0 then "at" else "word"⟩ P w mg base 2 "is_integer_within" 3 [] F_is_integer_within := fn_mk1 (ok_is_integer_within FF_is_integer_within TT G_is_integer) (PySem.W.mg_of X G a_is_integer_within) k_is_integer_within_ B_is_integer_within
  have G_is_sequence : Fn ⟨K, fun _ => 0, fun n => if n = 0 then D_BadValue else D_TooMany, fun n => if n = 0 then "at" else "word"⟩ P w mg base 1 "is_sequence" 1 [] F_is_sequence := fn_mk1 (ok_is_sequence FF_is_sequence TT) (PySem.W.mg_of X G a_is_sequence) k_is_sequence_ B_is_sequence
  have G_is_fraction : Fn ⟨K, fun _ => 0, fun n => if n = 0 then D_BadValue else D_TooMany, fun n => if n = 0 then "at" else "word"⟩ P w mg base 2 "is_fraction" 1 [] F_is_fraction := fn_mk1 (ok_is_fraction FF_is_fraction TT G_is_sequence G_is_integer) (PySem.W.mg_of X G a_is_fraction) k_is_fraction_ B_is_fraction
  have G_is_amount : Fn ⟨K, fun _ => 0, fun n => if n = 0 then D_BadValue else D_TooMany, fun n => if n = 0 then "at" else "word"⟩ P w mg base 3 "is_amount" 1 [] F_is_amount := fn_mk1 (ok_is_amount FF_is_amount TT G_is_fraction) (PySem.W.mg_of X G a_is_amount) k_is_amount_ B_is_amount
  have G_fraction : Fn ⟨K, fun _ => 0, fun n => if n = 0 then D_BadValue else D_TooMany, fun n => if n = 0 then "at" else "word"⟩ P w mg base 1 "fraction" 2 [] F_fraction := fn_mk1 (ok_fraction FF_fraction TT) (PySem.W.mg_of X G a_fraction) k_fraction_ B_fraction
  have G_plus : Fn ⟨K, fun _ => 0, fun n => if n = 0 then D_BadValue else D_TooMany, fun n => if n = 0 then "at" else "word"⟩ P w mg base 2 "plus" 2 [] F_plus := fn_mk1 (ok_plus FF_plus TT G_fraction) (PySem.W.mg_of X G a_plus) k_plus_ B_plus
  have G_minus : Fn ⟨K, fun _ => 0, fun n => if n = 0 then D_BadValue else D_TooMany, fun n => if n = 0 then "at" else "word"⟩ P w mg base 2 "minus" 2 [] F_minus := fn_mk1 (ok_minus FF_minus TT G_fraction) (PySem.W.mg_of X G a_minus) k_minus_ B_minus
  have G_times : Fn ⟨K, fun _ => 0, fun n => if n = 0 then D_BadValue else D_TooMany, fun n => if n = 0 then "at" else "word"⟩ P w mg base 2 "times" 2 [] F_times := fn_mk1 (ok_times FF_times TT G_fraction) (PySem.W.mg_of X G a_times) k_times_ B_times
  have G_one_over : Fn ⟨K, fun _ => 0, fun n => if n = 0 then D_BadValue else D_TooMany, fun n => if n = 0 then "at" else "word"⟩ P w mg base 1 "one_over" 1 [] F_one_over := fn_mk1 (ok_one_over FF_one_over TT) (PySem.W.mg_of X G a_one_over) k_one_over_ B_one_over
  have G_is_below : Fn ⟨K, fun _ => 0, fun n => if n = 0 then D_BadValue else D_TooMany, fun n => if n = 0 then "at" else "word"⟩ P w mg base 1 "is_below" 2 [] F_is_below := fn_mk1 (ok_is_below FF_is_below TT) (PySem.W.mg_of X G a_is_below) k_is_below_ B_is_below
  have G_least_of : Fn ⟨K, fun _ => 0, fun n => if n = 0 then D_BadValue else D_TooMany, fun n => if n = 0 then "at" else "word"⟩ P w mg base 2 "least_of" 1 [] F_least_of := fn_mk1 (ok_least_of FF_least_of TT G_is_below) (PySem.W.mg_of X G a_least_of) k_least_of_ B_least_of
  have G_total : Fn ⟨K, fun _ => 0, fun n => if n = 0 then D_BadValue else D_TooMany, fun n => if n = 0 then "at" else "word"⟩ P w mg base 3 "total" 1 [] F_total := fn_mk1 (ok_total FF_total TT G_plus) (PySem.W.mg_of X G a_total) k_total_ B_total
  have G__is_kept : Fn ⟨K, fun _ => 0, fun n => if n = 0 then D_BadValue else D_TooMany, fun n => if n = 0 then "at" else "word"⟩ P w mg base 4 "_is_kept" 1 [] F__is_kept := fn_mk1 (ok__is_kept FF__is_kept TT G_is_amount G_is_below) (PySem.W.mg_of X G a__is_kept) k__is_kept_ B__is_kept
  have G__is_step : Fn ⟨K, fun _ => 0, fun n => if n = 0 then D_BadValue else D_TooMany, fun n => if n = 0 then "at" else "word"⟩ P w mg base 4 "_is_step" 1 [] F__is_step := fn_mk1 (ok__is_step FF__is_step TT G_is_amount G_is_below) (PySem.W.mg_of X G a__is_step) k__is_step_ B__is_step
  have G__need_pool : Fn ⟨K, fun _ => 0, fun n => if n = 0 then D_BadValue else D_TooMany, fun n => if n = 0 then "at" else "word"⟩ P w mg base 5 "_need_pool" 1 [] F__need_pool := fn_mk1 (ok__need_pool FF__need_pool TT G_is_sequence G__is_kept G__is_step G_is_integer_within) (PySem.W.mg_of X G a__need_pool) k__need_pool_ B__need_pool
  have G__need_stakes : Fn ⟨K, fun _ => 0, fun n => if n = 0 then D_BadValue else D_TooMany, fun n => if n = 0 then "at" else "word"⟩ P w mg base 3 "_need_stakes" 2 [] F__need_stakes := fn_mk1 (ok__need_stakes FF__need_stakes TT G_is_sequence G_is_integer_within) (PySem.W.mg_of X G a__need_stakes) k__need_stakes_ B__need_stakes
  have G__returned : Fn ⟨K, fun _ => 0, fun n => if n = 0 then D_BadValue else D_TooMany, fun n => if n = 0 then "at" else "word"⟩ P w mg base 3 "_returned" 1 [] F__returned := fn_mk1 (ok__returned FF__returned TT G_minus) (PySem.W.mg_of X G a__returned) k__returned_ B__returned
  have G__payment : Fn ⟨K, fun _ => 0, fun n => if n = 0 then D_BadValue else D_TooMany, fun n => if n = 0 then "at" else "word"⟩ P w mg base 4 "_payment" 3 [] F__payment := fn_mk1 (ok__payment FF__payment TT G_times G__returned G_fraction G_one_over) (PySem.W.mg_of X G a__payment) k__payment_ B__payment
  have G_payments : Fn ⟨K, fun _ => 0, fun n => if n = 0 then D_BadValue else D_TooMany, fun n => if n = 0 then "at" else "word"⟩ P w mg base 6 "payments" 2 [] F_payments := fn_mk1 (ok_payments FF_payments TT G__need_pool G__need_stakes G__payment) (PySem.W.mg_of X G a_payments) k_payments_ B_payments
  have G__is_payment : Fn ⟨K, fun _ => 0, fun n => if n = 0 then D_BadValue else D_TooMany, fun n => if n = 0 then "at" else "word"⟩ P w mg base 4 "_is_payment" 2 [] F__is_payment := fn_mk1 (ok__is_payment FF__is_payment TT G_is_amount G_times G_one_over) (PySem.W.mg_of X G a__is_payment) k__is_payment_ B__is_payment
  have G__need_row : Fn ⟨K, fun _ => 0, fun n => if n = 0 then D_BadValue else D_TooMany, fun n => if n = 0 then "at" else "word"⟩ P w mg base 5 "_need_row" 2 [] F__need_row := fn_mk1 (ok__need_row FF__need_row TT G_is_sequence G__is_payment) (PySem.W.mg_of X G a__need_row) k__need_row_ B__need_row
  have G__bound : Fn ⟨K, fun _ => 0, fun n => if n = 0 then D_BadValue else D_TooMany, fun n => if n = 0 then "at" else "word"⟩ P w mg base 4 "_bound" 2 [] F__bound := fn_mk1 (ok__bound FF__bound TT G_times G__returned G_one_over G_least_of G_plus) (PySem.W.mg_of X G a__bound) k__bound_ B__bound
  have G__bounds : Fn ⟨K, fun _ => 0, fun n => if n = 0 then D_BadValue else D_TooMany, fun n => if n = 0 then "at" else "word"⟩ P w mg base 5 "_bounds" 2 [] F__bounds := fn_mk1 (ok__bounds FF__bounds TT G__bound) (PySem.W.mg_of X G a__bounds) k__bounds_ B__bounds
  have G_spread : Fn ⟨K, fun _ => 0, fun n => if n = 0 then D_BadValue else D_TooMany, fun n => if n = 0 then "at" else "word"⟩ P w mg base 6 "spread" 2 [] F_spread := fn_mk1 (ok_spread FF_spread TT G__need_pool G__need_row G_total G__bounds) (PySem.W.mg_of X G a_spread) k_spread_ B_spread
  have G_comes : Fn ⟨K, fun _ => 0, fun n => if n = 0 then D_BadValue else D_TooMany, fun n => if n = 0 then "at" else "word"⟩ P w mg base 7 "comes" 2 [] F_comes := fn_mk1 (ok_comes FF_comes TT G_spread G_is_below) (PySem.W.mg_of X G a_comes) k_comes_ B_comes
  have G__can_come_to : Fn ⟨K, fun _ => 0, fun n => if n = 0 then D_BadValue else D_TooMany, fun n => if n = 0 then "at" else "word"⟩ P w mg base 1 "_can_come_to" 2 [] F__can_come_to := fn_mk1 (ok__can_come_to FF__can_come_to TT) (PySem.W.mg_of X G a__can_come_to) k__can_come_to_ B__can_come_to
  have G__limits : Fn ⟨K, fun _ => 0, fun n => if n = 0 then D_BadValue else D_TooMany, fun n => if n = 0 then "at" else "word"⟩ P w mg base 1 "_limits" 2 [] F__limits := fn_mk1 (ok__limits FF__limits TT) (PySem.W.mg_of X G a__limits) k__limits_ B__limits
  have G__first_stakes : Fn ⟨K, fun _ => 0, fun n => if n = 0 then D_BadValue else D_TooMany, fun n => if n = 0 then "at" else "word"⟩ P w mg base 1 "_first_stakes" 2 [] F__first_stakes := fn_mk1 (ok__first_stakes FF__first_stakes TT) (PySem.W.mg_of X G a__first_stakes) k__first_stakes_ B__first_stakes
  have G_least_stakes : Fn ⟨K, fun _ => 0, fun n => if n = 0 then D_BadValue else D_TooMany, fun n => if n = 0 then "at" else "word"⟩ P w mg base 8 "least_stakes" 2 [] F_least_stakes := fn_mk1 (ok_least_stakes FF_least_stakes TT G__bounds G_comes G__can_come_to G__limits G__first_stakes) (PySem.W.mg_of X G a_least_stakes) k_least_stakes_ B_least_stakes
  have G__are_own : Fn ⟨K, fun _ => 0, fun n => if n = 0 then D_BadValue else D_TooMany, fun n => if n = 0 then "at" else "word"⟩ P w mg base 3 "_are_own" 2 [] F__are_own := fn_mk1 (ok__are_own FF__are_own TT G_is_sequence G_is_integer_within) (PySem.W.mg_of X G a__are_own) k__are_own_ B__are_own
  have G__won : Fn ⟨K, fun _ => 0, fun n => if n = 0 then D_BadValue else D_TooMany, fun n => if n = 0 then "at" else "word"⟩ P w mg base 3 "_won" 2 [] F__won := fn_mk1 (ok__won FF__won TT G_times) (PySem.W.mg_of X G a__won) k__won_ B__won
  have G_pool_gain : Fn ⟨K, fun _ => 0, fun n => if n = 0 then D_BadValue else D_TooMany, fun n => if n = 0 then "at" else "word"⟩ P w mg base 7 "pool_gain" 3 [] F_pool_gain := fn_mk1 (ok_pool_gain FF_pool_gain TT G__need_pool G__need_stakes G__are_own G_minus G__won G_payments) (PySem.W.mg_of X G a_pool_gain) k_pool_gain_ B_pool_gain
  have R__law_so : ∀ d : Nat, Fn ⟨K, fun _ => 0, fun n => if n = 0 then D_BadValue else D_TooMany, fun n => if n = 0 then "at" else "word"⟩ P w mg base (0 + d) "_law_so" 2 [] (F__law_so d) := fun d => by
    induction d with
    | zero => exact fn_mk1 (fn_err (ps := ["found", "meant"]) rfl) (PySem.W.mg_of X G a__law_so) k__law_so_ B__law_so
    | succ d ih => exact fn_mk1 (ok__law_so FF__law_so TT ih) (PySem.W.mg_of X G a__law_so) k__law_so_ B__law_so
  have G__law_so : Fn ⟨K, fun _ => 0, fun n => if n = 0 then D_BadValue else D_TooMany, fun n => if n = 0 then "at" else "word"⟩ P w mg base 6 "_law_so" 2 [] (F__law_so 6) := R__law_so 6
  have G__law_numbers : Fn ⟨K, fun _ => 0, fun n => if n = 0 then D_BadValue else D_TooMany, fun n => if n = 0 then "at" else "word"⟩ P w mg base 1 "_law_numbers" 1 [] F__law_numbers := fn_mk1 (ok__law_numbers FF__law_numbers TT) (PySem.W.mg_of X G a__law_numbers) k__law_numbers_ B__law_numbers
  have G__law_draw : Fn ⟨K, fun _ => 0, fun n => if n = 0 then D_BadValue else D_TooMany, fun n => if n = 0 then "at" else "word"⟩ P w mg base 1 "_law_draw" 3 [] F__law_draw := fn_mk1 (ok__law_draw FF__law_draw TT) (PySem.W.mg_of X G a__law_draw) k__law_draw_ B__law_draw
  have G__law_take : Fn ⟨K, fun _ => 0, fun n => if n = 0 then D_BadValue else D_TooMany, fun n => if n = 0 then "at" else "word"⟩ P w mg base 2 "_law_take" 3 [] F__law_take := fn_mk1 (ok__law_take FF__law_take TT G__law_draw) (PySem.W.mg_of X G a__law_take) k__law_take_ B__law_take
  have R__law_loose : ∀ d : Nat, Fn ⟨K, fun _ => 0, fun n => if n = 0 then D_BadValue else D_TooMany, fun n => if n = 0 then "at" else "word"⟩ P w mg base (0 + d) "_law_loose" 2 [] (F__law_loose d) := fun d => by
    induction d with
    | zero => exact fn_mk1 (fn_err (ps := ["value", "turn"]) rfl) (PySem.W.mg_of X G a__law_loose) k__law_loose_ B__law_loose
    | succ d ih => exact fn_mk1 (ok__law_loose FF__law_loose TT ih) (PySem.W.mg_of X G a__law_loose) k__law_loose_ B__law_loose
  have G__law_loose : Fn ⟨K, fun _ => 0, fun n => if n = 0 then D_BadValue else D_TooMany, fun n => if n = 0 then "at" else "word"⟩ P w mg base 6 "_law_loose" 2 [] (F__law_loose 6) := R__law_loose 6
  have G__law_numeric : Fn ⟨K, fun _ => 0, fun n => if n = 0 then D_BadValue else D_TooMany, fun n => if n = 0 then "at" else "word"⟩ P w mg base 1 "_law_numeric" 1 [] F__law_numeric := fn_mk1 (ok__law_numeric FF__law_numeric TT) (PySem.W.mg_of X G a__law_numeric) k__law_numeric_ B__law_numeric
  have G__law_gcd : Fn ⟨K, fun _ => 0, fun n => if n = 0 then D_BadValue else D_TooMany, fun n => if n = 0 then "at" else "word"⟩ P w mg base 1 "_law_gcd" 2 [] F__law_gcd := fn_mk1 (ok__law_gcd FF__law_gcd TT) (PySem.W.mg_of X G a__law_gcd) k__law_gcd_ B__law_gcd
  have G__law_frac : Fn ⟨K, fun _ => 0, fun n => if n = 0 then D_BadValue else D_TooMany, fun n => if n = 0 then "at" else "word"⟩ P w mg base 2 "_law_frac" 2 [] F__law_frac := fn_mk1 (ok__law_frac FF__law_frac TT G__law_gcd) (PySem.W.mg_of X G a__law_frac) k__law_frac_ B__law_frac
  have G__law_plus : Fn ⟨K, fun _ => 0, fun n => if n = 0 then D_BadValue else D_TooMany, fun n => if n = 0 then "at" else "word"⟩ P w mg base 3 "_law_plus" 2 [] F__law_plus := fn_mk1 (ok__law_plus FF__law_plus TT G__law_frac) (PySem.W.mg_of X G a__law_plus) k__law_plus_ B__law_plus
  have G__law_times : Fn ⟨K, fun _ => 0, fun n => if n = 0 then D_BadValue else D_TooMany, fun n => if n = 0 then "at" else "word"⟩ P w mg base 3 "_law_times" 2 [] F__law_times := fn_mk1 (ok__law_times FF__law_times TT G__law_frac) (PySem.W.mg_of X G a__law_times) k__law_times_ B__law_times
  have G__law_minus : Fn ⟨K, fun _ => 0, fun n => if n = 0 then D_BadValue else D_TooMany, fun n => if n = 0 then "at" else "word"⟩ P w mg base 4 "_law_minus" 2 [] F__law_minus := fn_mk1 (ok__law_minus FF__law_minus TT G__law_plus) (PySem.W.mg_of X G a__law_minus) k__law_minus_ B__law_minus
  have G__law_below : Fn ⟨K, fun _ => 0, fun n => if n = 0 then D_BadValue else D_TooMany, fun n => if n = 0 then "at" else "word"⟩ P w mg base 1 "_law_below" 2 [] F__law_below := fn_mk1 (ok__law_below FF__law_below TT) (PySem.W.mg_of X G a__law_below) k__law_below_ B__law_below
  have G__law_pool_fault : Fn ⟨K, fun _ => 0, fun n => if n = 0 then D_BadValue else D_TooMany, fun n => if n = 0 then "at" else "word"⟩ P w mg base 9 "_law_pool_fault" 4 [] F__law_pool_fault := fn_mk1 (ok__law_pool_fault FF__law_pool_fault TT G_payments G_comes G_least_stakes G_spread G_pool_gain) (PySem.W.mg_of X G a__law_pool_fault) k__law_pool_fault_ B__law_pool_fault
  have G__law_pool : Fn ⟨K, fun _ => 0, fun n => if n = 0 then D_BadValue else D_TooMany, fun n => if n = 0 then "at" else "word"⟩ P w mg base 3 "_law_pool" 2 [] F__law_pool := fn_mk1 (ok__law_pool FF__law_pool TT G__law_take G__law_frac) (PySem.W.mg_of X G a__law_pool) k__law_pool_ B__law_pool
  have G__law_pool_stakes : Fn ⟨K, fun _ => 0, fun n => if n = 0 then D_BadValue else D_TooMany, fun n => if n = 0 then "at" else "word"⟩ P w mg base 3 "_law_pool_stakes" 4 [] F__law_pool_stakes := fn_mk1 (ok__law_pool_stakes FF__law_pool_stakes TT G__law_take) (PySem.W.mg_of X G a__law_pool_stakes) k__law_pool_stakes_ B__law_pool_stakes
  have G__law_payments : Fn ⟨K, fun _ => 0, fun n => if n = 0 then D_BadValue else D_TooMany, fun n => if n = 0 then "at" else "word"⟩ P w mg base 5 "_law_payments" 2 [] F__law_payments := fn_mk1 (ok__law_payments FF__law_payments TT G__law_times G__law_minus G__law_frac) (PySem.W.mg_of X G a__law_payments) k__law_payments_ B__law_payments
  have G__law_spread : Fn ⟨K, fun _ => 0, fun n => if n = 0 then D_BadValue else D_TooMany, fun n => if n = 0 then "at" else "word"⟩ P w mg base 5 "_law_spread" 2 [] F__law_spread := fn_mk1 (ok__law_spread FF__law_spread TT G__law_minus G__law_plus G__law_frac G__law_below) (PySem.W.mg_of X G a__law_spread) k__law_spread_ B__law_spread
  have G__law_comes : Fn ⟨K, fun _ => 0, fun n => if n = 0 then D_BadValue else D_TooMany, fun n => if n = 0 then "at" else "word"⟩ P w mg base 6 "_law_comes" 2 [] F__law_comes := fn_mk1 (ok__law_comes FF__law_comes TT G__law_spread G__law_below) (PySem.W.mg_of X G a__law_comes) k__law_comes_ B__law_comes
  have G__law_bounds : Fn ⟨K, fun _ => 0, fun n => if n = 0 then D_BadValue else D_TooMany, fun n => if n = 0 then "at" else "word"⟩ P w mg base 5 "_law_bounds" 3 [] F__law_bounds := fn_mk1 (ok__law_bounds FF__law_bounds TT G__law_minus G__law_plus) (PySem.W.mg_of X G a__law_bounds) k__law_bounds_ B__law_bounds
  have G__law_least_sum : Fn ⟨K, fun _ => 0, fun n => if n = 0 then D_BadValue else D_TooMany, fun n => if n = 0 then "at" else "word"⟩ P w mg base 6 "_law_least_sum" 3 [] F__law_least_sum := fn_mk1 (ok__law_least_sum FF__law_least_sum TT G__law_bounds) (PySem.W.mg_of X G a__law_least_sum) k__law_least_sum_ B__law_least_sum
  have G__law_first_stakes : Fn ⟨K, fun _ => 0, fun n => if n = 0 then D_BadValue else D_TooMany, fun n => if n = 0 then "at" else "word"⟩ P w mg base 6 "_law_first_stakes" 3 [] F__law_first_stakes := fn_mk1 (ok__law_first_stakes FF__law_first_stakes TT G__law_bounds) (PySem.W.mg_of X G a__law_first_stakes) k__law_first_stakes_ B__law_first_stakes
  exact law_ok pure_law (ok_law FF_law TT G__law_numbers G__law_pool G__law_take G__law_comes G_least_stakes G__law_payments G__law_least_sum G__law_loose G__law_so G__law_pool_stakes G__law_plus G__law_pool_fault G__law_first_stakes G__law_times G_comes G_spread G__law_spread G__law_numeric)
end LW
open PySem PySem.W PyProof.Rows in
set_option maxRecDepth 100000 in
set_option maxHeartbeats 0 in
theorem PySem.Challenge.cw_racebooks_k51_rows_that_come_of_stakes_holds : PySem.Challenge.rw_racebooks_k51_rows_that_come_of_stakes.Holds := by
  w_on; o_law; k_head; (case hw => w_witness2)
  k_fill
  refine RB.walk (l := PySem.Challenge.rw_racebooks_k51_rows_that_come_of_stakes) (k := 10) rfl rfl ⟨rfl, by decide, by decide⟩ (fun w h Y => PySem.W.kIn_of Y) ?F
  case F =>
    intro w mg fa h KX G hmg
    refine' LW.all_mk KX G hmg ?z_abs ?z_all ?z_any ?z_bool ?z_int ?z_isinstance ?z_len ?z_list ?z_max ?z_min ?z_range ?z_str ?z_sum ?z_tuple ?z_zip ?z_gcd ?k_ZERO ?kt_ZERO ?k_ONE ?kt_ONE ?k_MOST_BOTTOM_OF_STEP ?k_MOST_RUNNERS ?k_MOST_STAKE ?k_MOST_IN_ALL ?a_BadValue ?x_BadValue ?sa_BadValue ?ga_BadValue ?gg_BadValue ?nf_BadValue ?kc_BadValue ?ex_BadValue ?ty_BadValue ?hd_BadValue ?fi_BadValue ?ti_BadValue ?l_BadValue ?c_BadValue ?a_TooMany ?x_TooMany ?sa_TooMany ?ga_TooMany ?gg_TooMany ?nf_TooMany ?kc_TooMany ?ex_TooMany ?ty_TooMany ?hd_TooMany ?fi_TooMany ?ti_TooMany ?l_TooMany ?c_TooMany ?ic_BadValue ?sb_BadValue_BadValue ?sb_TooMany_BadValue ?ic_TooMany ?sb_BadValue_TooMany ?sb_TooMany_TooMany ?a_is_integer ?l_is_integer ?c_is_integer ?k_is_integer_ ?a_is_integer_within ?l_is_integer_within ?c_is_integer_within ?k_is_integer_within_ ?a_is_sequence ?l_is_sequence ?c_is_sequence ?k_is_sequence_ ?a_is_fraction ?l_is_fraction ?c_is_fraction ?k_is_fraction_ ?a_is_amount ?l_is_amount ?c_is_amount ?k_is_amount_ ?a_fraction ?l_fraction ?c_fraction ?k_fraction_ ?a_plus ?l_plus ?c_plus ?k_plus_ ?a_minus ?l_minus ?c_minus ?k_minus_ ?a_times ?l_times ?c_times ?k_times_ ?a_one_over ?l_one_over ?c_one_over ?k_one_over_ ?a_is_below ?l_is_below ?c_is_below ?k_is_below_ ?a_least_of ?l_least_of ?c_least_of ?k_least_of_ ?a_total ?l_total ?c_total ?k_total_ ?a__is_kept ?l__is_kept ?c__is_kept ?k__is_kept_ ?a__is_step ?l__is_step ?c__is_step ?k__is_step_ ?a__need_pool ?l__need_pool ?c__need_pool ?k__need_pool_ ?a__need_stakes ?l__need_stakes ?c__need_stakes ?k__need_stakes_ ?a__returned ?l__returned ?c__returned ?k__returned_ ?a__payment ?l__payment ?c__payment ?k__payment_ ?a_payments ?l_payments ?c_payments ?k_payments_ ?a__is_payment ?l__is_payment ?c__is_payment ?k__is_payment_ ?a__need_row ?l__need_row ?c__need_row ?k__need_row_ ?a__bound ?l__bound ?c__bound ?k__bound_ ?a__bounds ?l__bounds ?c__bounds ?k__bounds_ ?a_spread ?l_spread ?c_spread ?k_spread_ ?a_comes ?l_comes ?c_comes ?k_comes_ ?a__can_come_to ?l__can_come_to ?c__can_come_to ?k__can_come_to_ ?a__limits ?l__limits ?c__limits ?k__limits_ ?a__first_stakes ?l__first_stakes ?c__first_stakes ?k__first_stakes_ ?a_least_stakes ?l_least_stakes ?c_least_stakes ?k_least_stakes_ ?a__are_own ?l__are_own ?c__are_own ?k__are_own_ ?a__won ?l__won ?c__won ?k__won_ ?a_pool_gain ?l_pool_gain ?c_pool_gain ?k_pool_gain_ ?a__law_so ?l__law_so ?c__law_so ?k__law_so_ ?a__law_numbers ?l__law_numbers ?c__law_numbers ?k__law_numbers_ ?a__law_draw ?l__law_draw ?c__law_draw ?k__law_draw_ ?a__law_take ?l__law_take ?c__law_take ?k__law_take_ ?a__law_loose ?l__law_loose ?c__law_loose ?k__law_loose_ ?a__law_numeric ?l__law_numeric ?c__law_numeric ?k__law_numeric_ ?a__law_gcd ?l__law_gcd ?c__law_gcd ?k__law_gcd_ ?a__law_frac ?l__law_frac ?c__law_frac ?k__law_frac_ ?a__law_plus ?l__law_plus ?c__law_plus ?k__law_plus_ ?a__law_times ?l__law_times ?c__law_times ?k__law_times_ ?a__law_minus ?l__law_minus ?c__law_minus ?k__law_minus_ ?a__law_below ?l__law_below ?c__law_below ?k__law_below_ ?a__law_pool_fault ?l__law_pool_fault ?c__law_pool_fault ?k__law_pool_fault_ ?a__law_pool ?l__law_pool ?c__law_pool ?k__law_pool_ ?a__law_pool_stakes ?l__law_pool_stakes ?c__law_pool_stakes ?k__law_pool_stakes_ ?a__law_payments ?l__law_payments ?c__law_payments ?k__law_payments_ ?a__law_spread ?l__law_spread ?c__law_spread ?k__law_spread_ ?a__law_comes ?l__law_comes ?c__law_comes ?k__law_comes_ ?a__law_bounds ?l__law_bounds ?c__law_bounds ?k__law_bounds_ ?a__law_least_sum ?l__law_least_sum ?c__law_least_sum ?k__law_least_sum_ ?a__law_first_stakes ?l__law_first_stakes ?c__law_first_stakes ?k__law_first_stakes_ ?a_law ?l_law ?c_law ?k_law_
    (case z_abs => k_is)
    (case z_all => k_is)
    (case z_any => k_is)
    (case z_bool => k_is)
    (case z_int => k_is)
    (case z_isinstance => k_is)
    (case z_len => k_is)
    (case z_list => k_is)
    (case z_max => k_is)
    (case z_min => k_is)
    (case z_range => k_is)
    (case z_str => k_is)
    (case z_sum => k_is)
    (case z_tuple => k_is)
    (case z_zip => k_is)
    (case z_gcd => k_is)
    (case k_ZERO => k_is)
    (case kt_ZERO => k_is)
    (case k_ONE => k_is)
    (case kt_ONE => k_is)
    (case k_MOST_BOTTOM_OF_STEP => k_is)
    (case k_MOST_RUNNERS => k_is)
    (case k_MOST_STAKE => k_is)
    (case k_MOST_IN_ALL => k_is)
    (case a_BadValue => k_is)
    (case x_BadValue => k_is)
    (case sa_BadValue => k_is)
    (case ga_BadValue => k_is)
    (case gg_BadValue => k_is)
    (case nf_BadValue => k_is)
    (case kc_BadValue => k_is)
    (case ex_BadValue => k_is)
    (case ty_BadValue => k_is)
    (case hd_BadValue => k_is)
    (case fi_BadValue => k_is)
    (case ti_BadValue => k_is)
    (case l_BadValue => k_is)
    (case c_BadValue => k_is)
    (case a_TooMany => k_is)
    (case x_TooMany => k_is)
    (case sa_TooMany => k_is)
    (case ga_TooMany => k_is)
    (case gg_TooMany => k_is)
    (case nf_TooMany => k_is)
    (case kc_TooMany => k_is)
    (case ex_TooMany => k_is)
    (case ty_TooMany => k_is)
    (case hd_TooMany => k_is)
    (case fi_TooMany => k_is)
    (case ti_TooMany => k_is)
    (case l_TooMany => k_is)
    (case c_TooMany => k_is)
    (case ic_BadValue => k_is)
    (case sb_BadValue_BadValue => k_is)
    (case sb_TooMany_BadValue => k_is)
    (case ic_TooMany => k_is)
    (case sb_BadValue_TooMany => k_is)
    (case sb_TooMany_TooMany => k_is)
    (case a_is_integer => k_is)
    (case l_is_integer => k_is)
    (case c_is_integer => k_is)
    (case k_is_integer_ => k_is)
    (case a_is_integer_within => k_is)
    (case l_is_integer_within => k_is)
    (case c_is_integer_within => k_is)
    (case k_is_integer_within_ => k_is)
    (case a_is_sequence => k_is)
    (case l_is_sequence => k_is)
    (case c_is_sequence => k_is)
    (case k_is_sequence_ => k_is)
    (case a_is_fraction => k_is)
    (case l_is_fraction => k_is)
    (case c_is_fraction => k_is)
    (case k_is_fraction_ => k_is)
    (case a_is_amount => k_is)
    (case l_is_amount => k_is)
    (case c_is_amount => k_is)
    (case k_is_amount_ => k_is)
    (case a_fraction => k_is)
    (case l_fraction => k_is)
    (case c_fraction => k_is)
    (case k_fraction_ => k_is)
    (case a_plus => k_is)
    (case l_plus => k_is)
    (case c_plus => k_is)
    (case k_plus_ => k_is)
    (case a_minus => k_is)
    (case l_minus => k_is)
    (case c_minus => k_is)
    (case k_minus_ => k_is)
    (case a_times => k_is)
    (case l_times => k_is)
    (case c_times => k_is)
    (case k_times_ => k_is)
    (case a_one_over => k_is)
    (case l_one_over => k_is)
    (case c_one_over => k_is)
    (case k_one_over_ => k_is)
    (case a_is_below => k_is)
    (case l_is_below => k_is)
    (case c_is_below => k_is)
    (case k_is_below_ => k_is)
    (case a_least_of => k_is)
    (case l_least_of => k_is)
    (case c_least_of => k_is)
    (case k_least_of_ => k_is)
    (case a_total => k_is)
    (case l_total => k_is)
    (case c_total => k_is)
    (case k_total_ => k_is)
    (case a__is_kept => k_is)
    (case l__is_kept => k_is)
    (case c__is_kept => k_is)
    (case k__is_kept_ => k_is)
    (case a__is_step => k_is)
    (case l__is_step => k_is)
    (case c__is_step => k_is)
    (case k__is_step_ => k_is)
    (case a__need_pool => k_is)
    (case l__need_pool => k_is)
    (case c__need_pool => k_is)
    (case k__need_pool_ => k_is)
    (case a__need_stakes => k_is)
    (case l__need_stakes => k_is)
    (case c__need_stakes => k_is)
    (case k__need_stakes_ => k_is)
    (case a__returned => k_is)
    (case l__returned => k_is)
    (case c__returned => k_is)
    (case k__returned_ => k_is)
    (case a__payment => k_is)
    (case l__payment => k_is)
    (case c__payment => k_is)
    (case k__payment_ => k_is)
    (case a_payments => k_is)
    (case l_payments => k_is)
    (case c_payments => k_is)
    (case k_payments_ => k_is)
    (case a__is_payment => k_is)
    (case l__is_payment => k_is)
    (case c__is_payment => k_is)
    (case k__is_payment_ => k_is)
    (case a__need_row => k_is)
    (case l__need_row => k_is)
    (case c__need_row => k_is)
    (case k__need_row_ => k_is)
    (case a__bound => k_is)
    (case l__bound => k_is)
    (case c__bound => k_is)
    (case k__bound_ => k_is)
    (case a__bounds => k_is)
    (case l__bounds => k_is)
    (case c__bounds => k_is)
    (case k__bounds_ => k_is)
    (case a_spread => k_is)
    (case l_spread => k_is)
    (case c_spread => k_is)
    (case k_spread_ => k_is)
    (case a_comes => k_is)
    (case l_comes => k_is)
    (case c_comes => k_is)
    (case k_comes_ => k_is)
    (case a__can_come_to => k_is)
    (case l__can_come_to => k_is)
    (case c__can_come_to => k_is)
    (case k__can_come_to_ => k_is)
    (case a__limits => k_is)
    (case l__limits => k_is)
    (case c__limits => k_is)
    (case k__limits_ => k_is)
    (case a__first_stakes => k_is)
    (case l__first_stakes => k_is)
    (case c__first_stakes => k_is)
    (case k__first_stakes_ => k_is)
    (case a_least_stakes => k_is)
    (case l_least_stakes => k_is)
    (case c_least_stakes => k_is)
    (case k_least_stakes_ => k_is)
    (case a__are_own => k_is)
    (case l__are_own => k_is)
    (case c__are_own => k_is)
    (case k__are_own_ => k_is)
    (case a__won => k_is)
    (case l__won => k_is)
    (case c__won => k_is)
    (case k__won_ => k_is)
    (case a_pool_gain => k_is)
    (case l_pool_gain => k_is)
    (case c_pool_gain => k_is)
    (case k_pool_gain_ => k_is)
    (case a__law_so => k_is)
    (case l__law_so => k_is)
    (case c__law_so => k_is)
    (case k__law_so_ => k_is)
    (case a__law_numbers => k_is)
    (case l__law_numbers => k_is)
    (case c__law_numbers => k_is)
    (case k__law_numbers_ => k_is)
    (case a__law_draw => k_is)
    (case l__law_draw => k_is)
    (case c__law_draw => k_is)
    (case k__law_draw_ => k_is)
    (case a__law_take => k_is)
    (case l__law_take => k_is)
    (case c__law_take => k_is)
    (case k__law_take_ => k_is)
    (case a__law_loose => k_is)
    (case l__law_loose => k_is)
    (case c__law_loose => k_is)
    (case k__law_loose_ => k_is)
    (case a__law_numeric => k_is)
    (case l__law_numeric => k_is)
    (case c__law_numeric => k_is)
    (case k__law_numeric_ => k_is)
    (case a__law_gcd => k_is)
    (case l__law_gcd => k_is)
    (case c__law_gcd => k_is)
    (case k__law_gcd_ => k_is)
    (case a__law_frac => k_is)
    (case l__law_frac => k_is)
    (case c__law_frac => k_is)
    (case k__law_frac_ => k_is)
    (case a__law_plus => k_is)
    (case l__law_plus => k_is)
    (case c__law_plus => k_is)
    (case k__law_plus_ => k_is)
    (case a__law_times => k_is)
    (case l__law_times => k_is)
    (case c__law_times => k_is)
    (case k__law_times_ => k_is)
    (case a__law_minus => k_is)
    (case l__law_minus => k_is)
    (case c__law_minus => k_is)
    (case k__law_minus_ => k_is)
    (case a__law_below => k_is)
    (case l__law_below => k_is)
    (case c__law_below => k_is)
    (case k__law_below_ => k_is)
    (case a__law_pool_fault => k_is)
    (case l__law_pool_fault => k_is)
    (case c__law_pool_fault => k_is)
    (case k__law_pool_fault_ => k_is)
    (case a__law_pool => k_is)
    (case l__law_pool => k_is)
    (case c__law_pool => k_is)
    (case k__law_pool_ => k_is)
    (case a__law_pool_stakes => k_is)
    (case l__law_pool_stakes => k_is)
    (case c__law_pool_stakes => k_is)
    (case k__law_pool_stakes_ => k_is)
    (case a__law_payments => k_is)
    (case l__law_payments => k_is)
    (case c__law_payments => k_is)
    (case k__law_payments_ => k_is)
    (case a__law_spread => k_is)
    (case l__law_spread => k_is)
    (case c__law_spread => k_is)
    (case k__law_spread_ => k_is)
    (case a__law_comes => k_is)
    (case l__law_comes => k_is)
    (case c__law_comes => k_is)
    (case k__law_comes_ => k_is)
    (case a__law_bounds => k_is)
    (case l__law_bounds => k_is)
    (case c__law_bounds => k_is)
    (case k__law_bounds_ => k_is)
    (case a__law_least_sum => k_is)
    (case l__law_least_sum => k_is)
    (case c__law_least_sum => k_is)
    (case k__law_least_sum_ => k_is)
    (case a__law_first_stakes => k_is)
    (case l__law_first_stakes => k_is)
    (case c__law_first_stakes => k_is)
    (case k__law_first_stakes_ => k_is)
    (case a_law => k_is)
    (case l_law => k_is)
    (case c_law => k_is)
    (case k_law_ => k_is)
#print axioms PySem.Challenge.cw_racebooks_k51_rows_that_come_of_stakes_holds
