import PyProof.Rows.All
import Wide.All
import OpenK.AllK
import Wide.FinOn
import HandS.ForMost
import HandS.ForExc
import HandS.TupAny
import HandS.TupMul
import HandS.Gcd
import HandS.IsInst
import HandS.Deep
import HandS.Property
import HandS.ExcInit
import HandS.Flow
import HandS.Wide
import HandS.Conv
import HandS.Zip
import HandS.SetFor
import HandS.MakeKw
import HandS.CallSlots
import HandS.SortInts
import HandS.HotCalls
import HandS.Strs
import HandS.WideBits
import HandS.EndBits
import HandS.Defaults
import HandS.Style
import KE.SortData
import HandS.MakeKwOnly
import HandS.RepeatKit
import HandS.DictTup
import HandS.More
import HandS.ExcValue
import HandS.ExcOwn
import KE.KRevSl
import PySem.Challenge.RW_racebooks_k10_outcomes_of_races
set_option Elab.async false
set_option linter.all false
set_option maxRecDepth 100000
set_option maxHeartbeats 4000000
namespace RB
open PySem PySem.Spec PyProof.Rows L2

/-- a value: what never changes is told by its parts; a list or an instance by its number in the store -/
inductive W where
  | non | bl (b : Bool) | int (i : Int) | str (x : Str) | tup (ws : List W) | ref (n : Nat)
inductive Cell where
  /-- a list -/
  | lst (ws : List W)
  /-- a list that is only read -/
  | scr (ws : List W)
  /-- an instance of the class with this number -/
  | ins (c : Nat) (fs : List (Str × W))
/-- the cells; d: from which cell on a cell may speak of a later one -/
structure Sto where
  c : List Cell
  d : Option Nat
abbrev Lo := List (Option W)
/-- how a piece ends: with a value, with an own error (its class, what it carries), or outside what is served -/
inductive Res (α : Type) where
  | ok (a : α) (st : Sto)
  | exc (c : Nat) (p : W) (st : Sto)
  | err
def Res.bind {α β : Type} (r : Res α) (k : α → Sto → Res β) : Res β :=
  match r with
  | .ok a st => k a st
  | .exc c p st => .exc c p st
  | .err => .err
abbrev Ev := Lo → Sto → Res W
abbrev Bv := Lo → Sto → Res Bool
abbrev Evs := Lo → Sto → Res (List W)
inductive RS where
  | nx (l : Lo) (st : Sto) | rt (w : W) (st : Sto) | bk (l : Lo) (st : Sto) | ct (l : Lo) (st : Sto) | exc (c : Nat) (p : W) (l : Lo) (st : Sto) | err
abbrev Sx := Lo → Sto → RS

/-- what the top has written: the part K, where the classes stand, what their errors carry -/
structure Gm where
  K : PySem.W.Frag
  cl : Nat → Addr
  ec : Nat → Addr
  fld : Nat → Str

mutual
inductive Rep (K : PySem.W.Frag) (μ : List Addr) (H : Hp) : W → V → Prop
  | non : Rep K μ H .non .non
  | bl (b : Bool) : Rep K μ H (.bl b) (.bl b)
  | int (i : Int) : Rep K μ H (.int i) (.int i)
  | str (x : Str) : Rep K μ H (.str x) (.str x)
  | tup {a : Addr} {ws : List W} {xs : List V} : SqT K H a xs → Reps K μ H ws xs → Rep K μ H (.tup ws) (.ref a)
  | ref {n : Nat} {a : Addr} : μ[n]? = some a → Rep K μ H (.ref n) (.ref a)
inductive Reps (K : PySem.W.Frag) (μ : List Addr) (H : Hp) : List W → List V → Prop
  | nil : Reps K μ H [] []
  | cons {w : W} {v : V} {ws : List W} {vs : List V} : Rep K μ H w v → Reps K μ H ws vs → Reps K μ H (w :: ws) (v :: vs)
end

/-- what goes on standing -/
structure Ext (K : PySem.W.Frag) (μ μ' : List Addr) (H H' : Hp) : Prop where
  pre : ∀ (i : Nat) a, μ[i]? = some a → μ'[i]? = some a
  tup : ∀ a xs, SqT K H a xs → SqT K H' a xs

section
variable {K : PySem.W.Frag} {μ μ' μ'' : List Addr} {H H' H'' : Hp}
theorem Ext.refl : Ext K μ μ H H := ⟨fun _ _ h => h, fun _ _ h => h⟩
theorem Ext.trans (a : Ext K μ μ' H H') (b : Ext K μ' μ'' H' H'') : Ext K μ μ'' H H'' := ⟨fun i x h => b.pre i x (a.pre i x h), fun x y h => b.tup x y (a.tup x y h)⟩
mutual
theorem Rep.mono (e : Ext K μ μ' H H') : ∀ {w : W} {v : V}, Rep K μ H w v → Rep K μ' H' w v
  | _, _, .non => .non
  | _, _, .bl b => .bl b
  | _, _, .int b => .int b
  | _, _, .str b => .str b
  | _, _, .tup h r => .tup (e.tup _ _ h) (Reps.mono e r)
  | _, _, .ref h => .ref (e.pre _ _ h)
theorem Reps.mono (e : Ext K μ μ' H H') : ∀ {w : List W} {v : List V}, Reps K μ H w v → Reps K μ' H' w v
  | _, _, .nil => .nil
  | _, _, .cons a b => .cons (Rep.mono e a) (Reps.mono e b)
end
theorem Reps.length : ∀ {ws : List W} {vs : List V}, Reps K μ H ws vs → ws.length = vs.length
  | _, _, .nil => rfl
  | _, _, .cons _ b => congrArg (· + 1) (Reps.length b)
theorem Reps.get : ∀ {ws : List W} {vs : List V} {i : Nat} {w : W}, Reps K μ H ws vs → ws[i]? = some w → ∃ v, vs[i]? = some v ∧ Rep K μ H w v
  | _, _, _, _, .nil, e => by simp at e
  | _, _, 0, _, .cons r _, e => by simp at e; subst e; exact ⟨_, rfl, r⟩
  | _, _, i + 1, w, .cons _ t, e => by
    obtain ⟨u, h1, h2⟩ := Reps.get (i := i) (w := w) t (by simpa using e)
    exact ⟨u, by simpa using h1, h2⟩
theorem Reps.append : ∀ {xs ys : List W} {us ws : List V}, Reps K μ H xs us → Reps K μ H ys ws → Reps K μ H (xs ++ ys) (us ++ ws)
  | _, _, _, _, .nil, s => s
  | _, _, _, _, .cons r t, s => .cons r (Reps.append t s)
theorem Reps.take : ∀ {xs : List W} {us : List V} (n : Nat), Reps K μ H xs us → Reps K μ H (xs.take n) (us.take n)
  | _, _, 0, _ => by simpa using Reps.nil
  | _, _, _ + 1, .nil => .nil
  | _, _, n + 1, .cons r t => .cons r (Reps.take n t)
theorem Reps.drop : ∀ {xs : List W} {us : List V} (n : Nat), Reps K μ H xs us → Reps K μ H (xs.drop n) (us.drop n)
  | _, _, 0, r => by simpa using r
  | _, _, _ + 1, .nil => .nil
  | _, _, n + 1, .cons _ t => by simpa using Reps.drop n t
theorem Reps.set {w : W} {v : V} (r : Rep K μ H w v) : ∀ {xs : List W} {us : List V} (i : Nat), Reps K μ H xs us → Reps K μ H (xs.set i w) (us.set i v)
  | _, _, _, .nil => .nil
  | _, _, 0, .cons _ t => .cons r t
  | _, _, i + 1, .cons q t => .cons q (Reps.set r i t)
theorem Reps.eraseIdx : ∀ {xs : List W} {us : List V} (i : Nat), Reps K μ H xs us → Reps K μ H (xs.eraseIdx i) (us.eraseIdx i)
  | _, _, _, .nil => .nil
  | _, _, 0, .cons _ t => t
  | _, _, i + 1, .cons q t => .cons q (Reps.eraseIdx i t)
theorem Reps.reverse : ∀ {xs : List W} {us : List V}, Reps K μ H xs us → Reps K μ H xs.reverse us.reverse
  | _, _, .nil => .nil
  | _, _, .cons r t => by rw [List.reverse_cons, List.reverse_cons]; exact (Reps.reverse t).append (.cons r .nil)
theorem Reps.ints : ∀ {ns : List Int} {vs : List V}, Reps K μ H (ns.map W.int) vs → vs = ns.map V.int
  | [], _, .nil => rfl
  | n :: ns, _, .cons r t => by cases r; rw [Reps.ints t]; rfl
theorem Reps.of_ints (ns : List Int) : Reps K μ H (ns.map W.int) (ns.map V.int) := by
  induction ns with
  | nil => exact .nil
  | cons n ns ih => exact .cons (.int n) ih
theorem Reps.snoc {ws : List W} {vs : List V} {w : W} {v : V} (r : Reps K μ H ws vs) (h : Rep K μ H w v) : Reps K μ H (ws ++ [w]) (vs ++ [v]) := r.append (.cons h .nil)

/-- fields -/
def FRep (K : PySem.W.Frag) (μ : List Addr) (H : Hp) (fs : List (Str × W)) (gs : List (Str × V)) : Prop := Paired (fun (p : Str × W) (q : Str × V) => p.1 = q.1 ∧ Rep K μ H p.2 q.2) fs gs
theorem FRep.mono (e : Ext K μ μ' H H') {fs : List (Str × W)} {gs : List (Str × V)} (h : FRep K μ H fs gs) : FRep K μ' H' fs gs := Paired.mapP h fun _ _ z => ⟨z.1, z.2.mono e⟩
end

/-- a list of the written part -/
def WrL (K : PySem.W.Frag) (a : Addr) (xs : List V) : Prop :=
  ∃ (o : Obj) (its : Array Value) (n : Nat), K.lookup a = some o ∧ o.cls = .type "list" ∧ o.dict = none ∧ o.data = .seq its n ∧ its.size ≤ sizeLine ∧ Vals xs its.toList
/-- what stands at a for a cell -/
def CellOk (Γ : Gm) (μ : List Addr) (H : Hp) (a : Addr) : Cell → Prop
  | .lst ws => ∃ xs, H a = some (.lst xs) ∧ Reps Γ.K μ H ws xs
  | .scr ws => ∃ xs, (WrL Γ.K a xs ∨ ∃ o, H a = some (.frz o (.lst xs))) ∧ Reps Γ.K μ H ws xs
  | .ins c fs => ∃ dx gs, H a = some (.ins (Γ.cl c) dx gs) ∧ FRep Γ.K μ H fs gs
def Cell.own : Cell → Bool
  | .scr _ => false
  | _ => true
mutual
/-- speaks of cells low n alone -/
def W.low (n : Nat) : W → Bool
  | .ref k => decide (k < n)
  | .tup ws => W.lows n ws
  | _ => true
def W.lows (n : Nat) : List W → Bool
  | [] => true
  | w :: ws => W.low n w && W.lows n ws
end
def Cell.low (n : Nat) : Cell → Bool
  | .lst ws => W.lows n ws
  | .scr ws => W.lows n ws
  | .ins _ fs => W.lows n (fs.map (·.2))
structure Sim (Γ : Gm) (μ : List Addr) (st : Sto) (H : Hp) : Prop where
  len : μ.length = st.c.length
  inj : ∀ (i j : Nat) a c d, st.c[i]? = some c → st.c[j]? = some d → c.own = true → d.own = true → μ[i]? = some a → μ[j]? = some a → i = j
  cell : ∀ (i : Nat) c a, st.c[i]? = some c → μ[i]? = some a → CellOk Γ μ H a c
  back : ∀ (i : Nat) c, st.c[i]? = some c → (∀ k, st.d = some k → i < k) → c.low i = true
def LRep (K : PySem.W.Frag) (μ : List Addr) (H : Hp) (l : Lo) (σ : L2.St) : Prop := l.length = σ.length ∧ ∀ (i : Nat) w, l[i]? = some (some w) → ∃ v, σ[i]? = some (some v) ∧ Rep K μ H w v
section
variable {K : PySem.W.Frag} {Γ : Gm} {μ μ' μ'' : List Addr} {H H' H'' : Hp} {l : Lo} {σ : L2.St} {st st' : Sto} {a p : Addr}
theorem LRep.mono (e : Ext K μ μ' H H') (h : LRep K μ H l σ) : LRep K μ' H' l σ := ⟨h.1, fun i w q => let ⟨v, a, b⟩ := h.2 i w q; ⟨v, a, b.mono e⟩⟩
theorem LRep.set {w : W} {v : V} (h : LRep K μ H l σ) (r : Rep K μ H w v) (i : Nat) : LRep K μ H (l.set i (some w)) (σ.set i (some v)) := by
  refine ⟨by simp [h.1], fun j w' q => ?_⟩
  by_cases hj : i = j
  · subst hj
    by_cases hl : i < l.length
    · rw [List.getElem?_set_self hl] at q
      cases q
      exact ⟨v, by rw [List.getElem?_set_self (by rw [← h.1]; exact hl)], r⟩
    · rw [List.getElem?_eq_none (by simpa using hl)] at q; cases q
  · rw [List.getElem?_set_ne hj] at q
    obtain ⟨v', h1, h2⟩ := h.2 j w' q
    exact ⟨v', by rw [List.getElem?_set_ne hj]; exact h1, h2⟩
theorem LRep.gone (h : LRep K μ H l σ) (i : Nat) : LRep K μ H (l.set i none) (σ.set i none) := by
  refine ⟨by simp [h.1], fun j w' q => ?_⟩
  by_cases hj : i = j
  · subst hj
    by_cases hl : i < l.length
    · rw [List.getElem?_set_self hl] at q; cases q
    · rw [List.getElem?_eq_none (by simpa using hl)] at q; cases q
  · rw [List.getElem?_set_ne hj] at q
    obtain ⟨v', h1, h2⟩ := h.2 j w' q
    exact ⟨v', by rw [List.getElem?_set_ne hj]; exact h1, h2⟩
def wipeL (l : Lo) : List Nat → Lo
  | [] => l
  | v :: vs => (wipeL l vs).set v none
theorem LRep.wipe (h : LRep K μ H l σ) : ∀ vs, LRep K μ H (wipeL l vs) (L2.wipe σ vs)
  | [] => h
  | v :: vs => (LRep.wipe h vs).gone v

theorem sqT_upd {o : HO} (h : SqT K H a xs) (hp : H p = none ∨ ∃ ys, H p = some (.lst ys)) : SqT K (upd H p o) a xs := by
  have ne : ∀ {u : HO}, H a = some u → (∀ ys, u ≠ .lst ys) → a ≠ p := fun {u} e nl z => by
    subst z
    rcases hp with q | ⟨ys, q⟩
    · rw [q] at e; cases e
    · rw [q] at e; cases e; exact nl ys rfl
  rcases h with (h | ⟨ob, h⟩) | h
  · exact .inl (.inl (by rw [upd_ne (ne h fun _ z => by cases z)]; exact h))
  · exact .inl (.inr ⟨ob, by rw [upd_ne (ne h fun _ z => by cases z)]; exact h⟩)
  · exact .inr h
/-- a new object, or a list written -/
theorem ext_upd {o : HO} (hp : H p = none ∨ ∃ ys, H p = some (.lst ys)) : Ext K μ μ H (upd H p o) := ⟨fun _ _ h => h, fun _ _ h => sqT_upd h hp⟩
theorem ext_new {o : HO} (hp : H p = none) : Ext K μ (μ ++ [a]) H (upd H p o) := ⟨fun i x h => by
  have := (List.getElem?_eq_some_iff.mp h).1
  rw [List.getElem?_append_left this]; exact h, fun _ _ h => sqT_upd h (.inl hp)⟩
theorem CellOk.kept {c : Cell} {o : HO} (h : CellOk Γ μ H a c) (e : Ext Γ.K μ μ' H (upd H p o)) (hp : H p = none ∨ (∃ ys, H p = some (.lst ys)) ∧ (c.own = true → a ≠ p)) : CellOk Γ μ' (upd H p o) a c := by
  have keep : ∀ {u : HO}, H a = some u → (c.own = true ∨ ∀ ys, u ≠ .lst ys) → upd H p o a = some u := fun {u} q nl => by
    rw [upd_ne]
    · exact q
    · intro z
      subst z
      rcases hp with r | ⟨⟨ys, r⟩, s⟩
      · rw [r] at q; cases q
      · rcases nl with nl | nl
        · exact s nl rfl
        · rw [r] at q; cases q; exact nl ys rfl
  cases c with
  | lst ws => obtain ⟨xs, h1, h2⟩ := h; exact ⟨xs, keep h1 (.inl rfl), h2.mono e⟩
  | scr ws =>
    obtain ⟨xs, h1, h2⟩ := h
    refine ⟨xs, ?_, h2.mono e⟩
    rcases h1 with h1 | ⟨ob, h1⟩
    · exact .inl h1
    · exact .inr ⟨ob, keep h1 (.inr fun _ z => by cases z)⟩
  | ins c fs => obtain ⟨dx, gs, h1, h2⟩ := h; exact ⟨dx, gs, keep h1 (.inl rfl), h2.mono e⟩
theorem CellOk.ext {c : Cell} (h : CellOk Γ μ H a c) (e : Ext Γ.K μ μ' H H) : CellOk Γ μ' H a c := by
  cases c with
  | lst ws => obtain ⟨xs, h1, h2⟩ := h; exact ⟨xs, h1, h2.mono e⟩
  | scr ws => obtain ⟨xs, h1, h2⟩ := h; exact ⟨xs, h1, h2.mono e⟩
  | ins c fs => obtain ⟨dx, gs, h1, h2⟩ := h; exact ⟨dx, gs, h1, h2.mono e⟩
theorem CellOk.some_ {c : Cell} (h : CellOk Γ μ H a c) (hc : c.own = true) : ∃ u, H a = some u := by
  cases c with
  | lst ws => obtain ⟨xs, h1, h2⟩ := h; exact ⟨_, h1⟩
  | scr ws => cases hc
  | ins c fs => obtain ⟨dx, gs, h1, h2⟩ := h; exact ⟨_, h1⟩
mutual
theorem Rep.low {K : PySem.W.Frag} {n : Nat} {v : V} : ∀ {w : W}, Rep K μ H w v → μ.length ≤ n → W.low n w = true
  | .non, .non, _ => rfl
  | .bl b, .bl _, _ => rfl
  | .int b, .int _, _ => rfl
  | .str b, .str _, _ => rfl
  | .tup ws, .tup a b, h => by simp [W.low]; exact Reps.low b h
  | .ref k, .ref a, h => by
    have := (List.getElem?_eq_some_iff.mp a).1
    simp [W.low]; omega
theorem Reps.low {K : PySem.W.Frag} {n : Nat} : ∀ {ws : List W} {vs : List V}, Reps K μ H ws vs → μ.length ≤ n → W.lows n ws = true
  | [], _, .nil, _ => rfl
  | w :: ws, _, .cons a b, h => by simp [W.lows]; exact ⟨Rep.low a h, Reps.low b h⟩
end
mutual
/-- no list and no instance in it -/
def W.pure : W → Bool
  | .ref _ => false
  | .tup ws => W.pures ws
  | _ => true
def W.pures : List W → Bool
  | [] => true
  | w :: ws => W.pure w && W.pures ws
end
mutual
theorem Rep.pure {K : PySem.W.Frag} {v : V} : ∀ {w : W}, W.pure w = true → Rep K μ H w v → Rep K μ' H w v
  | .non, _, .non => .non
  | .bl b, _, .bl _ => .bl b
  | .int b, _, .int _ => .int b
  | .str b, _, .str _ => .str b
  | .tup ws, h, .tup a b => .tup a (Reps.pure (by simpa [W.pure] using h) b)
  | .ref _, h, _ => by simp [W.pure] at h
theorem Reps.pure {K : PySem.W.Frag} : ∀ {ws : List W} {vs : List V}, W.pures ws = true → Reps K μ H ws vs → Reps K μ' H ws vs
  | [], _, _, .nil => .nil
  | w :: ws, _, h, .cons a b => by
    simp [W.pures] at h
    exact .cons (Rep.pure h.1 a) (Reps.pure h.2 b)
end
mutual
theorem W.pure_low {n : Nat} : ∀ {w : W}, W.pure w = true → W.low n w = true
  | .non, _ => rfl
  | .bl b, _ => rfl
  | .int b, _ => rfl
  | .str b, _ => rfl
  | .tup ws, h => by simp [W.low]; exact W.pures_low (by simpa [W.pure] using h)
  | .ref _, h => by simp [W.pure] at h
theorem W.pures_low {n : Nat} : ∀ {ws : List W}, W.pures ws = true → W.lows n ws = true
  | [], _ => rfl
  | w :: ws, h => by
    simp [W.pures] at h
    simp [W.lows]
    exact ⟨W.pure_low h.1, W.pures_low h.2⟩
end
mutual
theorem Rep.cut {K : PySem.W.Frag} {n m : Nat} {v : V} : ∀ {w : W}, W.low n w = true → Rep K μ H w v → n ≤ m → Rep K (μ.take m) H w v
  | .non, _, .non, _ => .non
  | .bl b, _, .bl _, _ => .bl b
  | .int b, _, .int _, _ => .int b
  | .str b, _, .str _, _ => .str b
  | .tup ws, h, .tup a b, l => .tup a (Reps.cut (by simpa [W.low] using h) b l)
  | .ref k, h, .ref a, l => .ref (by
      simp [W.low] at h
      rw [List.getElem?_take_of_lt (by omega)]; exact a)
theorem Reps.cut {K : PySem.W.Frag} {n m : Nat} : ∀ {ws : List W} {vs : List V}, W.lows n ws = true → Reps K μ H ws vs → n ≤ m → Reps K (μ.take m) H ws vs
  | [], _, _, .nil, _ => .nil
  | w :: ws, _, h, .cons a b, l => by
    simp [W.lows] at h
    exact .cons (Rep.cut h.1 a l) (Reps.cut h.2 b l)
end
theorem FRep.cut {K : PySem.W.Frag} {n m : Nat} : ∀ {fs : List (Str × W)} {gs : List (Str × V)}, W.lows n (fs.map (·.2)) = true → FRep K μ H fs gs → n ≤ m → FRep K (μ.take m) H fs gs
  | _, _, _, .nil, _ => .nil
  | p :: fs, _, h, .cons a b, l => by
    simp [W.lows] at h
    exact .cons ⟨a.1, a.2.cut h.1 l⟩ (FRep.cut h.2 b l)
/-- an object that no cell tells of -/
theorem Sim.other {o : HO} (s : Sim Γ μ st H) (hp : H p = none) : Sim Γ μ st (upd H p o) :=
  ⟨s.len, s.inj, fun i c a hc ha => (s.cell i c a hc ha).kept (ext_upd (.inl hp)) (.inl hp), s.back⟩
theorem get_snoc {α : Type} {l : List α} {x y : α} {i : Nat} (h : (l ++ [x])[i]? = some y) : l[i]? = some y ∨ (i = l.length ∧ y = x) := by
  rcases Nat.lt_or_ge i l.length with q | q
  · rw [List.getElem?_append_left q] at h; exact .inl h
  · rw [List.getElem?_append_right q] at h
    obtain ⟨n, e⟩ : ∃ n, i - l.length = n := ⟨_, rfl⟩
    rw [e] at h
    cases n with
    | zero => simp at h; exact .inr ⟨by omega, h.symm⟩
    | succ n => simp at h
def Sto.push (st : Sto) (c : Cell) : Sto := ⟨st.c ++ [c], st.d⟩
/-- a new cell -/
theorem Sim.new {o : HO} {c : Cell} (s : Sim Γ μ st H) (hp : H p = none) (hc : CellOk Γ (μ ++ [p]) (upd H p o) p c) (hb : c.low st.c.length = true) : Sim Γ (μ ++ [p]) (st.push c) (upd H p o) := by
  have old : ∀ (i : Nat) d, st.c[i]? = some d → d.own = true → μ[i]? = some p → False := fun i d h1 h2 h3 => by
    obtain ⟨u, q⟩ := (s.cell i d p h1 h3).some_ h2
    rw [hp] at q; cases q
  have mold : ∀ (i : Nat) d a, st.c[i]? = some d → (μ ++ [p])[i]? = some a → μ[i]? = some a := fun i d a h m => by
    have h1 := (List.getElem?_eq_some_iff.mp h).1
    have h2 := s.len
    rw [List.getElem?_append_left (by omega)] at m
    exact m
  have mnew : ∀ a, (μ ++ [p])[st.c.length]? = some a → a = p := fun a m => by
    rw [← s.len] at m
    simp at m
    exact m.symm
  refine ⟨by simp [s.len, Sto.push], fun i j a c' d' h1 h2 o1 o2 m1 m2 => ?_, fun i c' a h1 m1 => ?_, fun i c' h1 hk => ?_⟩
  · rcases get_snoc h1 with h1 | ⟨e1, z1⟩
    · rcases get_snoc h2 with h2 | ⟨e2, z2⟩
      · exact s.inj i j a _ _ h1 h2 o1 o2 (mold _ _ _ h1 m1) (mold _ _ _ h2 m2)
      · subst e2
        have e := mnew _ m2
        subst e
        exact (old i c' h1 o1 (mold _ _ _ h1 m1)).elim
    · rcases get_snoc h2 with h2 | ⟨e2, z2⟩
      · subst e1
        have e := mnew _ m1
        subst e
        exact (old j d' h2 o2 (mold _ _ _ h2 m2)).elim
      · omega
  · rcases get_snoc h1 with h1 | ⟨e1, z1⟩
    · exact (s.cell i c' a h1 (mold _ _ _ h1 m1)).kept (ext_new hp) (.inl hp)
    · subst e1 z1
      have e := mnew _ m1
      subst e
      exact hc
  · rcases get_snoc h1 with h1 | ⟨e1, z1⟩
    · exact s.back i c' h1 hk
    · subst e1 z1; exact hb
/-- the mark behind a write at n of what speaks of cells (b: of none) -/
def mark (d : Option Nat) (n : Nat) (b : Bool) : Option Nat := if b = true then d else some (match d with | none => n | some k => min k n)
def Sto.put (st : Sto) (n : Nat) (c : Cell) (b : Bool) : Sto := ⟨st.c.set n c, mark st.d n b⟩
theorem mark_lt {d : Option Nat} {n i : Nat} {b : Bool} (h : ∀ k, mark d n b = some k → i < k) : (∀ k, d = some k → i < k) ∧ (b = false → i < n) := by
  cases b with
  | true => exact ⟨h, fun z => by cases z⟩
  | false =>
    cases d with
    | none => exact ⟨fun k z => (by cases z), fun _ => h n rfl⟩
    | some m =>
      have := h (min m n) rfl
      exact ⟨fun k z => by cases z; omega, fun _ => by omega⟩
/-- a list is written -/
theorem Sim.write {o : HO} {c c' : Cell} {n : Nat} {ys : List V} {b : Bool} (s : Sim Γ μ st H) (hn : st.c[n]? = some c') (hm : μ[n]? = some p) (hp : H p = some (.lst ys)) (ho : c'.own = true) (ho' : c.own = true) (hc : CellOk Γ μ (upd H p o) p c)
    (hb : b = true → c'.low n = true → c.low n = true) : Sim Γ μ (st.put n c b) (upd H p o) := by
  have hlt := (List.getElem?_eq_some_iff.mp hn).1
  have own : ∀ (i : Nat) d, (st.c.set n c)[i]? = some d → d.own = true → ∃ d', st.c[i]? = some d' ∧ d'.own = true := fun i d h1 h2 => by
    by_cases z : n = i
    · subst z; exact ⟨c', hn, ho⟩
    · rw [List.getElem?_set_ne z] at h1; exact ⟨d, h1, h2⟩
  refine ⟨by simp [s.len, Sto.put], fun i j a d e h1 h2 o1 o2 m1 m2 => ?_, fun i d a h1 m1 => ?_, fun i d h1 hk => ?_⟩
  · obtain ⟨d', x1, x2⟩ := own i d h1 o1
    obtain ⟨e', y1, y2⟩ := own j e h2 o2
    exact s.inj i j a d' e' x1 y1 x2 y2 m1 m2
  · by_cases z : n = i
    · subst z
      have h1 : (st.c.set n c)[n]? = some d := h1
      rw [List.getElem?_set_self hlt] at h1
      cases h1
      rw [hm] at m1; cases m1
      exact hc
    · have h1 : (st.c.set n c)[i]? = some d := h1
      rw [List.getElem?_set_ne z] at h1
      refine (s.cell i d a h1 m1).kept (ext_upd (.inr ⟨_, hp⟩)) (.inr ⟨⟨_, hp⟩, fun od q => ?_⟩)
      subst q
      exact z (s.inj n i a c' d hn h1 ho od hm m1)
  · obtain ⟨k1, k2⟩ := mark_lt hk
    have h1 : (st.c.set n c)[i]? = some d := h1
    by_cases z : n = i
    · subst z
      rw [List.getElem?_set_self hlt] at h1
      cases h1
      cases b with
      | true => exact hb rfl (s.back n c' hn k1)
      | false => exact absurd (k2 rfl) (Nat.lt_irrefl _)
    · rw [List.getElem?_set_ne z] at h1
      exact s.back i d h1 k1
theorem getTake {α : Type} {l : List α} {n i : Nat} {x : α} (h : (l.take n)[i]? = some x) : l[i]? = some x ∧ i < n := by
  have hl := (List.getElem?_eq_some_iff.mp h).1
  rw [List.length_take] at hl
  rw [List.getElem?_take_of_lt (by omega)] at h
  exact ⟨h, by omega⟩
/-- may the cells from n on be forgotten -/
def Sto.may (st : Sto) (n : Nat) : Bool := match st.d with | none => true | some k => decide (n ≤ k)
def Sto.cut (st : Sto) (n : Nat) : Sto := ⟨st.c.take n, none⟩
theorem Sto.may_lt {st : Sto} {n i : Nat} (h : st.may n = true) (hi : i < n) : ∀ k, st.d = some k → i < k := fun k e => by
  unfold Sto.may at h
  rw [e] at h
  have := of_decide_eq_true h
  omega
/-- the cells from n on are forgotten -/
theorem Sim.cut {n : Nat} (s : Sim Γ μ st H) (h : st.may n = true) : Sim Γ (μ.take n) (st.cut n) H := by
  refine ⟨by simp [s.len, Sto.cut], fun i j a c' d' h1 h2 o1 o2 m1 m2 => ?_, fun i c a h1 m1 => ?_, fun i c h1 _ => ?_⟩
  · exact s.inj i j a c' d' (getTake h1).1 (getTake h2).1 o1 o2 (getTake m1).1 (getTake m2).1
  · obtain ⟨h1, hi⟩ := getTake h1
    have hb := s.back i c h1 (Sto.may_lt h hi)
    have hc := s.cell i c a h1 (getTake m1).1
    cases c with
    | lst ws => obtain ⟨xs, q1, q2⟩ := hc; exact ⟨xs, q1, Reps.cut (n := i) hb q2 (by omega)⟩
    | scr ws => obtain ⟨xs, q1, q2⟩ := hc; exact ⟨xs, q1, Reps.cut (n := i) hb q2 (by omega)⟩
    | ins k fs => obtain ⟨dx, gs, q1, q2⟩ := hc; exact ⟨dx, gs, q1, FRep.cut (n := i) hb q2 (by omega)⟩
  · obtain ⟨h1, hi⟩ := getTake h1
    exact s.back i c h1 (Sto.may_lt h hi)
/-- a tuple's own lists, if all of them are new, apart and without lists: the tuple with their new numbers, and the old ones -/
def relo (st : Sto) (n : Nat) : List W → List Nat → Option (List W × List Nat)
  | [], ks => some ([], ks)
  | .ref k :: r, ks => if n ≤ k ∧ k ∉ ks then (match st.c[k]? with
    | some (.lst us) => if W.pures us = true then (match relo st n r (ks ++ [k]) with | some (vs, js) => some (.ref (n + ks.length) :: vs, js) | none => none) else none
    | _ => none) else none
  | w :: r, ks => if W.pure w = true then (match relo st n r ks with | some (vs, js) => some (w :: vs, js) | none => none) else none
structure ReloOk (st : Sto) (n : Nat) (ks : List Nat) : Prop where
  nd : ks.Nodup
  at' : ∀ k ∈ ks, n ≤ k ∧ ∃ us, st.c[k]? = some (.lst us) ∧ W.pures us = true
theorem relo_ok {n : Nat} : ∀ {ws vs : List W} {ks js : List Nat}, relo st n ws ks = some (vs, js) → ReloOk st n ks → ReloOk st n js ∧ (∃ t, js = ks ++ t) ∧ ∀ {K : PySem.W.Frag} {H : Hp} {xs : List V} {ν : List Addr}, (∀ (q k : Nat) a, js[q]? = some k → μ[k]? = some a → ν[n + q]? = some a) → Reps K μ H ws xs → Reps K ν H vs xs
  | [], vs, ks, js, h, g => by
    unfold relo at h
    cases h
    exact ⟨g, ⟨[], by simp⟩, fun _ r => by cases r; exact .nil⟩
  | w :: r, vs, ks, js, h, g => by
    have pureCase : ∀ {vs2 : List W} {js : List Nat}, W.pure w = true → relo st n r ks = some (vs2, js) → vs = w :: vs2 → ReloOk st n js ∧ (∃ t, js = ks ++ t) ∧ ∀ {K : PySem.W.Frag} {H : Hp} {xs : List V} {ν : List Addr}, (∀ (q k : Nat) a, js[q]? = some k → μ[k]? = some a → ν[n + q]? = some a) → Reps K μ H (w :: r) xs → Reps K ν H vs xs := fun hp hr hv => by
      obtain ⟨g1, g2, g3⟩ := relo_ok hr g
      refine ⟨g1, g2, fun hν rr => ?_⟩
      subst hv
      cases rr with
      | cons a b => exact .cons (Rep.pure hp a) (g3 hν b)
    cases w with
    | ref k =>
      unfold relo at h
      split at h
      · rename_i hk
        split at h
        · rename_i us hc
          split at h
          · rename_i hp
            split at h
            · rename_i vs2 js2 hr
              cases h
              have gg : ReloOk st n (ks ++ [k]) := ⟨by
                rw [List.nodup_append]
                refine ⟨g.nd, by simp, fun a ha b hb => ?_⟩
                rw [List.mem_singleton.mp hb]
                exact fun z => hk.2 (z ▸ ha), fun a ha => by
                rcases List.mem_append.mp ha with ha | ha
                · exact g.at' a ha
                · rw [List.mem_singleton.mp ha]; exact ⟨hk.1, us, hc, hp⟩⟩
              obtain ⟨g1, ⟨t, g2⟩, g3⟩ := relo_ok hr gg
              refine ⟨g1, ⟨k :: t, by rw [g2, List.append_assoc]; rfl⟩, fun hν rr => ?_⟩
              cases rr with
              | cons a b =>
                cases a with
                | ref hm =>
                  refine .cons (.ref (hν ks.length k _ ?_ hm)) (g3 hν b)
                  rw [g2, List.append_assoc, List.getElem?_append_right (Nat.le_refl _), Nat.sub_self]; rfl
            · cases h
          · cases h
        · cases h
      · cases h
    | non =>
      unfold relo at h
      split at h
      · rename_i hp
        split at h
        · rename_i vs2 js2 hr; cases h; exact pureCase hp hr rfl
        · cases h
      · cases h
    | bl b =>
      unfold relo at h
      split at h
      · rename_i hp
        split at h
        · rename_i vs2 js2 hr; cases h; exact pureCase hp hr rfl
        · cases h
      · cases h
    | int b =>
      unfold relo at h
      split at h
      · rename_i hp
        split at h
        · rename_i vs2 js2 hr; cases h; exact pureCase hp hr rfl
        · cases h
      · cases h
    | str b =>
      unfold relo at h
      split at h
      · rename_i hp
        split at h
        · rename_i vs2 js2 hr; cases h; exact pureCase hp hr rfl
        · cases h
      · cases h
    | tup b =>
      unfold relo at h
      split at h
      · rename_i hp
        split at h
        · rename_i vs2 js2 hr; cases h; exact pureCase hp hr rfl
        · cases h
      · cases h
/-- what a def hands back: where it is a value without lists, or a new list of such, what it made beside is forgotten -/
def trim (n : Nat) (w : W) (st : Sto) : Res W :=
  if st.may n = true then
    (if W.pure w = true then .ok w (st.cut n) else
    match w with
    | .ref k => if n ≤ k then (match st.c[k]? with
      | some (.lst ws) => if W.pures ws = true then .ok (.ref (st.cut n).c.length) ((st.cut n).push (.lst ws)) else .ok w st
      | _ => .ok w st) else .ok w st
    | .tup ws => (match relo st n ws [] with
      | some (vs, ks) => .ok (.tup vs) ⟨st.c.take n ++ ks.map fun k => st.c.getD k (.lst []), none⟩
      | none => .ok w st)
    | _ => .ok w st)
  else .ok w st
end
end RB

set_option Elab.async false
set_option linter.all false
set_option maxRecDepth 100000
set_option maxHeartbeats 4000000
namespace RB
open PySem PySem.Spec PyProof.Rows L2

theorem PE_imp {X : Cx} {e : Expr} {t t' : TE} (h : PE X e t) (k : ∀ σ H Q, t' σ H Q → t σ H Q) : PE X e t' := ⟨fun pins s σ H Q I q => h.run pins s σ H Q I (k _ _ _ q)⟩
theorem PT_imp {X : Cx} {e : Expr} {t t' : TT} (h : PT X e t) (k : ∀ σ H Q, t' σ H Q → t σ H Q) : PT X e t' := ⟨fun pins s σ H Q I q => h.run pins s σ H Q I (k _ _ _ q)⟩
theorem PW_imp {X : Cx} {e : Expr} {t t' : TT} (h : PW X e t) (k : ∀ σ H Q, t' σ H Q → t σ H Q) : PW X e t' := ⟨fun wh pins s σ H Q I q => h.run wh pins s σ H Q I (k _ _ _ q)⟩
theorem PA_imp {X : Cx} {e : List Expr} {t t' : TA} (h : PA X e t) (k : ∀ σ H Q, t' σ H Q → t σ H Q) : PA X e t' := ⟨fun pos pins s σ H Q I q => h.run pos pins s σ H Q I (k _ _ _ q)⟩
theorem PS_imp {X : Cx} {e : Stmt} {t t' : TS} (h : PS X e t) (k : ∀ D σ H, t' D σ H → t D σ H) : PS X e t' := ⟨fun pins s σ H D I q => h.run pins s σ H D I (k _ _ _ q)⟩
theorem PSs_imp {X : Cx} {e : List Stmt} {t t' : TS} (h : PSs X e t) (k : ∀ D σ H, t' D σ H → t D σ H) : PSs X e t' := ⟨fun pins s σ H D I q => h.run pins s σ H D I (k _ _ _ q)⟩

abbrev RR (α β : Type) := List Addr → Hp → α → β → Prop
section
variable {α β γ δ : Type}
def Post (Γ : Gm) (Wx : WX) (R : RR α β) (μ : List Addr) (σ : L2.St) (H : Hp) (Q : β → Hp → Prop) : Res α → Prop
  | .ok a st' => ∀ μ' H' b, Ext Γ.K μ μ' H H' → Sim Γ μ' st' H' → R μ' H' a b → Q b H'
  | .exc c p st' => ∀ μ' H' d v, Ext Γ.K μ μ' H H' → Sim Γ μ' st' H' → Rep Γ.K μ' H' p v → H' d = some (.xd [(Γ.fld c, v)]) → Wx (.ref (Γ.ec c)) (some d) σ H'
  | .err => False
def tG (Γ : Gm) (Wx : WX) (R : RR α β) (f : Lo → Sto → Res α) : L2.St → Hp → (β → Hp → Prop) → Prop := fun σ H Q =>
  ∃ μ l st, Sim Γ μ st H ∧ LRep Γ.K μ H l σ ∧ Post Γ Wx R μ σ H Q (f l st)
abbrev tE (Γ : Gm) (Wx : WX) (f : Ev) : TE := tG Γ Wx (Rep Γ.K) f
abbrev tA (Γ : Gm) (Wx : WX) (f : Evs) : TA := tG Γ Wx (Reps Γ.K) f
abbrev tT (Γ : Gm) (Wx : WX) (f : Bv) : TT := tG Γ Wx (fun _ _ a b => a = b) f
variable {Γ : Gm} {Wx : WX} {R : RR α β} {R' : RR γ δ} {μ μ' : List Addr} {σ : L2.St} {H H' : Hp} {l : Lo} {st : Sto}
theorem Post.mono {Q : β → Hp → Prop} {r : Res α} (h : Post Γ Wx R μ σ H Q r) (e : Ext Γ.K μ μ' H H') : Post Γ Wx R μ' σ H' Q r := by
  cases r with
  | ok a st' => exact fun μ2 H2 b e2 => h μ2 H2 b (e.trans e2)
  | exc c p st' => exact fun μ2 H2 d v e2 => h μ2 H2 d v (e.trans e2)
  | err => exact h
theorem tG_bind {f : Lo → Sto → Res α} {k : α → Sto → Res γ} {Q : δ → Hp → Prop} (hs : Sim Γ μ st H) (hl : LRep Γ.K μ H l σ) (h : Post Γ Wx R' μ σ H Q ((f l st).bind k)) (S : β → Hp → Prop)
    (hS : ∀ a st1 μ1 H1 b, Ext Γ.K μ μ1 H H1 → Sim Γ μ1 st1 H1 → R μ1 H1 a b → Post Γ Wx R' μ1 σ H1 Q (k a st1) → S b H1) : tG Γ Wx R f σ H S := by
  refine ⟨μ, l, st, hs, hl, ?_⟩
  cases e : f l st with
  | ok a st1 =>
    rw [e] at h
    exact fun μ1 H1 b e1 s1 r1 => hS a st1 μ1 H1 b e1 s1 r1 (Post.mono (show Post Γ Wx R' μ σ H Q (k a st1) from h) e1)
  | exc c p st1 => rw [e] at h; exact h
  | err => rw [e] at h; exact h
/-- the end of a piece that keeps the state -/
theorem Post.here {Q : β → Hp → Prop} {a : α} {b : β} (h : Post Γ Wx R μ σ H Q (.ok a st)) (hs : Sim Γ μ st H) (r : R μ H a b) : Q b H := h μ H b .refl hs r
end

def evNil : Evs := fun _ st => .ok [] st
def evCons (a : Ev) (b : Evs) : Evs := fun l st => (a l st).bind fun x st1 => (b l st1).bind fun xs st2 => .ok (x :: xs) st2
def eLoc (i : Nat) : Ev := fun l st => match l[i]? with | some (some w) => .ok w st | _ => .err
def eLit (w : W) : Ev := fun _ st => .ok w st
def eTup (a : Evs) : Ev := fun l st => (a l st).bind fun ws st1 => if ws.length ≤ 1000 then .ok (.tup ws) st1 else .err
def eLst (a : Evs) : Ev := fun l st => (a l st).bind fun ws st1 => if ws.length ≤ 1000 then .ok (.ref st1.c.length) (st1.push (.lst ws)) else .err
def eBin (op : W → W → Sto → Res W) (a b : Ev) : Ev := fun l st => (a l st).bind fun x st1 => (b l st1).bind fun y st2 => op x y st2
def eB (F : List W → Sto → Res W) (a : Evs) : Ev := fun l st => (a l st).bind fun ws st1 => F ws st1
def eU (F : W → Sto → Res W) (a : Ev) : Ev := fun l st => (a l st).bind fun ws st1 => F ws st1
/-- what is true -/
def getL (st : Sto) (n : Nat) : Option (List W) := match st.c[n]? with | some (.lst ws) => some ws | some (.scr ws) => some ws | _ => none
def truth (st : Sto) : W → Option Bool
  | .non => some false
  | .bl b => some b
  | .int i => some (i != 0)
  | .str x => if x.length ≤ sizeLine then some ((x.length : Int) != 0) else none
  | .tup ws => some (!ws.isEmpty)
  | .ref n => match getL st n with | some ws => some (!ws.isEmpty) | none => none
def bTru (a : Ev) : Bv := fun l st => (a l st).bind fun w st1 => match truth st1 w with | some b => .ok b st1 | none => .err
def bNot (a : Bv) : Bv := fun l st => (a l st).bind fun b st1 => .ok (!b) st1
def bAnd (a b : Bv) : Bv := fun l st => (a l st).bind fun c st1 => if c = true then b l st1 else .ok false st1
def bOr (a b : Bv) : Bv := fun l st => (a l st).bind fun c st1 => if c = true then .ok true st1 else b l st1
def eIf (c : Bv) (a b : Ev) : Ev := fun l st => (c l st).bind fun k st1 => if k = true then a l st1 else b l st1
/-- and, or, not of bools, as values -/
def eAnd (a b : Ev) : Ev := fun l st => (a l st).bind fun x st1 => match x with | .bl c => if c = true then b l st1 else .ok (.bl false) st1 | _ => .err
def eOr (a b : Ev) : Ev := fun l st => (a l st).bind fun x st1 => match x with | .bl c => if c = true then .ok (.bl true) st1 else b l st1 | _ => .err
def eNot (a : Ev) : Ev := fun l st => (a l st).bind fun x st1 => match x with | .bl c => .ok (.bl (!c)) st1 | _ => .err
def bVal (a : Ev) : Bv := fun l st => (a l st).bind fun x st1 => match x with | .bl c => .ok c st1 | _ => .err

section
variable {X : Cx} {Γ : Gm} {Wx : WX} {e a b : Expr} {es : List Expr} {ea eb : Ev} {eas : Evs}
theorem qa_nil : PA X [] (tA Γ Wx evNil) := PA_imp pa_nil fun σ H Q ⟨μ, l, st, hs, hl, h⟩ => h.here hs .nil
theorem qa_cons (ha : PE X e (tE Γ Wx ea)) (hb : PA X es (tA Γ Wx eas)) (he : starEach (e :: es) X.env = (false, eval e X.env) :: starEach es X.env := by rfl) : PA X (e :: es) (tA Γ Wx (evCons ea eas)) :=
  PA_imp (pa_cons ha hb he) fun σ H Q ⟨μ, l, st, hs, hl, h⟩ => tG_bind hs hl h _ fun w st1 μ1 H1 v e1 s1 r1 h1 => tG_bind s1 (hl.mono e1) h1 _ fun ws st2 μ2 H2 vs e2 s2 r2 h2 => h2.here s2 (.cons (r1.mono e2) r2)
theorem qe_loc (i : Nat) {x : Str} {pos : Pos} (hN : X.N[i]? = some x := by rfl) (hv : Vis X.env.scope x := by first | exact Or.inl rfl | exact Or.inr (Or.inl rfl) | exact Or.inr (Or.inr rfl)) (hd : (x == ("__debug__" : Str)) = false := by decide)
    (hcd : (x == ("__classdict__" : Str)) = false := by decide) : PE X (.Name x pos) (tE Γ Wx (eLoc i)) :=
  PE_imp (pe_var hN hv hd hcd) fun σ H Q ⟨μ, l, st, hs, hl, h⟩ => by
    unfold eLoc at h
    split at h
    · rename_i w hw
      obtain ⟨v, h1, h2⟩ := hl.2 i w hw
      exact ⟨v, h1, h.here hs h2⟩
    · exact h.elim
theorem qe_int {i : Int} {j : Nat} {pos : Pos} : PE X (.Constant (.int i) j pos) (tE Γ Wx (eLit (.int i))) := PE_imp pe_int fun σ H Q ⟨μ, l, st, hs, hl, h⟩ => h.here hs (.int i)
theorem qe_bl {i : Bool} {j : Nat} {pos : Pos} : PE X (.Constant (.bool i) j pos) (tE Γ Wx (eLit (.bl i))) := PE_imp pe_bl fun σ H Q ⟨μ, l, st, hs, hl, h⟩ => h.here hs (.bl i)
theorem qe_non {j : Nat} {pos : Pos} : PE X (.Constant .none j pos) (tE Γ Wx (eLit .non)) := PE_imp pe_non fun σ H Q ⟨μ, l, st, hs, hl, h⟩ => h.here hs .non
theorem qe_str {x : Str} {j : Nat} {pos : Pos} : PE X (.Constant (.str x) j pos) (tE Γ Wx (eLit (.str x))) := PE_imp pe_str fun σ H Q ⟨μ, l, st, hs, hl, h⟩ => h.here hs (.str x)
/-- a module's constant -/
theorem qe_glob {x : Str} {v : V} {u : Value} {w : W} {pos : Pos} (hg : Gl X x) (hm : X.mg x = some u) (r : RelV v u) (hw : ∀ μ H, Rep Γ.K μ H w v) (hd : (x == ("__debug__" : Str)) = false := by decide) : PE X (.Name x pos) (tE Γ Wx (eLit w)) :=
  PE_imp (pe_glob hg hm r hd) fun σ H Q ⟨μ, l, st, hs, hl, h⟩ => h.here hs (hw _ _)
theorem le1000 {n : Nat} (h : n ≤ 1000) : n ≤ sizeLine := Nat.le_of_lt (small1000 h)
theorem qe_tup {pos : Pos} {x1} (h : PA X es (tA Γ Wx eas)) : PE X (.Tuple es x1 pos) (tE Γ Wx (eTup eas)) :=
  PE_imp (pe_tup h) fun σ H Q ⟨μ, l, st, hs, hl, h⟩ => tG_bind hs hl h _ fun ws st1 μ1 H1 xs e1 s1 r1 h1 => by
    split at h1
    · rename_i hlen
      refine ⟨by rw [← r1.length]; exact le1000 hlen, fun p hp => ?_⟩
      have e2 : Ext Γ.K μ1 μ1 H1 (upd H1 p (.tup xs)) := ext_upd (.inl hp)
      exact h1 _ _ _ e2 (s1.other hp) (.tup (.inl (.inl upd_same)) (r1.mono e2))
    · exact h1.elim
theorem qe_lst {pos : Pos} (h : PA X es (tA Γ Wx eas)) : PE X (.List es pos) (tE Γ Wx (eLst eas)) :=
  PE_imp (pe_lst h) fun σ H Q ⟨μ, l, st, hs, hl, h⟩ => tG_bind hs hl h _ fun ws st1 μ1 H1 xs e1 s1 r1 h1 => by
    split at h1
    · rename_i hlen
      refine ⟨by rw [← r1.length]; exact le1000 hlen, fun p hp => ?_⟩
      have e2 : Ext Γ.K μ1 (μ1 ++ [p]) H1 (upd H1 p (.lst xs)) := ext_new hp
      exact h1 _ _ _ e2 (s1.new hp ⟨xs, upd_same, r1.mono e2⟩ (r1.low (Nat.le_of_eq s1.len))) (.ref (by rw [← s1.len]; simp))
    · exact h1.elim
/-- an operator by values, run -/
def OpOk (Γ : Gm) (r : R2) (op : W → W → Sto → Res W) : Prop := ∀ (Wx : WX) μ (σ : L2.St) H st wx wy x y (Q : VK), Sim Γ μ st H → Rep Γ.K μ H wx x → Rep Γ.K μ H wy y → Post Γ Wx (Rep Γ.K) μ σ H Q (op wx wy st) → r x y H Q
theorem tOp_run {r : R2} {op : W → W → Sto → Res W} (hop : OpOk Γ r op) (σ : L2.St) (H : Hp) (Q : VK) (h : tE Γ Wx (eBin op ea eb) σ H Q) : tOp r (tE Γ Wx ea) (tE Γ Wx eb) σ H Q := by
  obtain ⟨μ, l, st, hs, hl, h⟩ := h
  exact tG_bind hs hl h _ fun w st1 μ1 H1 v e1 s1 r1 h1 => tG_bind s1 (hl.mono e1) h1 _ fun w2 st2 μ2 H2 v2 e2 s2 r2 h2 => hop Wx μ2 σ H2 st2 w w2 v v2 Q s2 (r1.mono e2) r2 h2
theorem qe_bin {o : Operator} {r : R2} {op : W → W → Sto → Res W} {pos : Pos} (ho : OpR X (binaryOp o) r) (hop : OpOk Γ r op) (ha : PE X a (tE Γ Wx ea)) (hb : PE X b (tE Γ Wx eb)) : PE X (.BinOp a o b pos) (tE Γ Wx (eBin op ea eb)) :=
  PE_imp (pe_op ho ha hb) fun σ H Q h => tOp_run hop σ H Q h
theorem qe_cmp {o : CmpOp} {r : R2} {op : W → W → Sto → Res W} {pos : Pos} (ho : OpR X (compareOp o) r) (hop : OpOk Γ r op) (ha : PE X a (tE Γ Wx ea)) (hb : PE X b (tE Γ Wx eb)) (hm : behindInMarks o b = false) : PE X (.Compare a [o] [b] pos) (tE Γ Wx (eBin op ea eb)) :=
  PE_imp (pe_cmpR ho ha hb hm) fun σ H Q h => tOp_run hop σ H Q h
theorem tTest_run {f : Ev} (σ : L2.St) (H : Hp) (Q : Bool → Hp → Prop) (h : tT Γ Wx (bVal f) σ H Q) : tTest (tE Γ Wx f) σ H Q := by
  obtain ⟨μ, l, st, hs, hl, h⟩ := h
  exact tG_bind hs hl h _ fun w st1 μ1 H1 v e1 s1 r1 h1 => by
    split at h1
    · cases r1
      exact ⟨_, rfl, h1.here s1 rfl⟩
    · exact h1.elim
theorem qt_cmp {o : CmpOp} {r : R2} {op : W → W → Sto → Res W} {pos : Pos} (ho : OpR X (compareOp o) r) (hop : OpOk Γ r op) (ha : PE X a (tE Γ Wx ea)) (hb : PE X b (tE Γ Wx eb)) (hm : behindInMarks o b = false) : PT X (.Compare a [o] [b] pos) (tT Γ Wx (bVal (eBin op ea eb))) :=
  PT_imp (pt_cmpR ho ha hb hm) fun σ H Q ⟨μ, l, st, hs, hl, h⟩ => by
    have h' : tTest (tE Γ Wx (eBin op ea eb)) σ H Q := tTest_run σ H Q ⟨μ, l, st, hs, hl, h⟩
    exact tOp_run hop σ H _ h'
/-- a op b op' c -/
def eChain (op op' : W → W → Sto → Res W) (a b c : Ev) : Ev := fun l st => (a l st).bind fun x st1 => (b l st1).bind fun y st2 => (op x y st2).bind fun z st3 => match z with
  | .bl k => if k = true then (c l st3).bind fun w st4 => op' y w st4 else .ok (.bl false) st3
  | _ => .err
/-- comparisons of a chain keep the state -/
def OpOkS (Γ : Gm) (r : R2) (op : W → W → Sto → Res W) : Prop := OpOk Γ r op ∧ ∀ x y st z st', op x y st = .ok z st' → st' = st
theorem tChain_run {c : Expr} {ec : Ev} {r r' : R2} {op op' : W → W → Sto → Res W} (hop : OpOk Γ r op) (hop' : OpOk Γ r' op') (σ : L2.St) (H : Hp) (Q : VK) (h : tE Γ Wx (eChain op op' ea eb ec) σ H Q) : tChain r r' (tE Γ Wx ea) (tE Γ Wx eb) (tE Γ Wx ec) σ H Q := by
  obtain ⟨μ, l, st, hs, hl, h⟩ := h
  refine tG_bind hs hl h _ fun w st1 μ1 H1 v e1 s1 r1 h1 => tG_bind s1 (hl.mono e1) h1 _ fun w2 st2 μ2 H2 v2 e2 s2 r2 h2 => ?_
  refine hop Wx μ2 σ H2 st2 w w2 v v2 _ s2 (r1.mono e2) r2 ?_
  cases e : op w w2 st2 with
  | err => rw [e] at h2; exact h2
  | exc c p st3 => rw [e] at h2; exact h2
  | ok z st3 =>
    rw [e] at h2
    intro μ3 H3 vz e3 s3 r3
    have h3 := Post.mono h2 e3
    dsimp only [Res.bind] at h3
    split at h3
    · rename_i k
      cases r3
      refine ⟨k, rfl, ?_⟩
      split
      · rename_i hk
        rw [if_pos hk] at h3
        exact tG_bind s3 (hl.mono (e1.trans (e2.trans e3))) h3 _ fun w4 st4 μ4 H4 v4 e4 s4 r4 h4 => hop' Wx μ4 σ H4 st4 w2 w4 v2 v4 Q s4 (r2.mono (e3.trans e4)) r4 h4
      · rename_i hk
        rw [if_neg hk] at h3
        exact h3.here s3 (.bl false)
    · exact h3.elim
theorem qe_chain {c : Expr} {ec : Ev} {o o' : CmpOp} {r r' : R2} {op op' : W → W → Sto → Res W} {pos : Pos} (ho : OpR X (compareOp o) r) (hop : OpOk Γ r op) (ho' : OpR X (compareOp o') r') (hop' : OpOk Γ r' op') (ha : PE X a (tE Γ Wx ea)) (hb : PE X b (tE Γ Wx eb))
    (hc : PE X c (tE Γ Wx ec)) (hm : lastMarks [o, o'] [b, c] = false := by rfl) : PE X (.Compare a [o, o'] [b, c] pos) (tE Γ Wx (eChain op op' ea eb ec)) :=
  PE_imp (pe_chain ho ho' ha hb hc hm) fun σ H Q h => tChain_run (c := c) hop hop' σ H Q h
theorem qt_chain {c : Expr} {ec : Ev} {o o' : CmpOp} {r r' : R2} {op op' : W → W → Sto → Res W} {pos : Pos} (ho : OpR X (compareOp o) r) (hop : OpOk Γ r op) (ho' : OpR X (compareOp o') r') (hop' : OpOk Γ r' op') (ha : PE X a (tE Γ Wx ea)) (hb : PE X b (tE Γ Wx eb))
    (hc : PE X c (tE Γ Wx ec)) (hm : lastMarks [o, o'] [b, c] = false := by rfl) : PT X (.Compare a [o, o'] [b, c] pos) (tT Γ Wx (bVal (eChain op op' ea eb ec))) :=
  PT_imp (pt_chain ho ho' ha hb hc hm) fun σ H Q h => by
    have h' : tTest (tE Γ Wx (eChain op op' ea eb ec)) σ H Q := tTest_run σ H Q h
    exact tChain_run (c := c) hop hop' σ H _ h'
theorem getL_rep {μ : List Addr} {st : Sto} {H : Hp} {n : Nat} {ws : List W} {v : V} (hs : Sim Γ μ st H) (h : getL st n = some ws) (r : Rep Γ.K μ H (.ref n) v) : ∃ a xs, v = .ref a ∧ SqL Γ.K H a xs ∧ Reps Γ.K μ H ws xs := by
  cases r with
  | ref hm =>
    unfold getL at h
    split at h
    · rename_i ws' e
      cases h
      obtain ⟨xs, h1, h2⟩ := hs.cell n _ _ e hm
      exact ⟨_, xs, rfl, .inl (.inl h1), h2⟩
    · rename_i ws' e
      cases h
      obtain ⟨xs, h1, h2⟩ := hs.cell n _ _ e hm
      refine ⟨_, xs, rfl, ?_, h2⟩
      rcases h1 with h1 | ⟨o, h1⟩
      · exact .inr h1
      · exact .inl (.inr ⟨o, h1⟩)
    · cases h
theorem isEmpty_reps {μ : List Addr} {H : Hp} {K : PySem.W.Frag} : ∀ {ws : List W} {xs : List V}, Reps K μ H ws xs → xs.isEmpty = ws.isEmpty
  | _, _, .nil => rfl
  | _, _, .cons _ _ => rfl
theorem truth_rep {μ : List Addr} {st : Sto} {H : Hp} {w : W} {v : V} {c : Bool} (hs : Sim Γ μ st H) (h : truth st w = some c) (r : Rep Γ.K μ H w v) : TruV Γ.K v H c := by
  cases w with
  | non => cases r; cases h; rfl
  | bl b => cases r; cases h; rfl
  | int i => cases r; cases h; rfl
  | str x =>
    cases r
    simp only [truth] at h
    by_cases q : x.length ≤ sizeLine
    · rw [if_pos q] at h
      exact ⟨q, (Option.some.inj h).symm⟩
    · rw [if_neg q] at h; cases h
  | tup ws =>
    cases r with
    | tup h1 h2 => cases h; exact .inr (.inl ⟨_, h1, by rw [isEmpty_reps h2]⟩)
  | ref n =>
    simp only [truth] at h
    cases e : getL st n with
    | none => rw [e] at h; cases h
    | some ws =>
      rw [e] at h
      cases h
      obtain ⟨a, xs, rfl, h1, h2⟩ := getL_rep hs e r
      exact .inl ⟨xs, h1, by rw [isEmpty_reps h2]⟩
/-- an expression as a test -/
theorem qt_tru (hK : X.K = Γ.K) (ha : PE X a (tE Γ Wx ea)) (he : ∀ whole, isTrue a X.env whole = (do let v ← whole; standAt a.pos; holding [v] (truthy v)) := by intro _; rfl) : PT X a (tT Γ Wx (bTru ea)) :=
  PT_imp (pt_truth ha he) fun σ H Q ⟨μ, l, st, hs, hl, h⟩ => tG_bind hs hl h _ fun w st1 μ1 H1 v e1 s1 r1 h1 => by
    split at h1
    · rename_i c hc
      exact ⟨c, by rw [hK]; exact truth_rep s1 hc r1, h1.here s1 rfl⟩
    · exact h1.elim
theorem qt_not {ba : Bv} {pos : Pos} (ha : PT X a (tT Γ Wx ba)) : PT X (.UnaryOp .Not a pos) (tT Γ Wx (bNot ba)) :=
  PT_imp (pt_not ha) fun σ H Q ⟨μ, l, st, hs, hl, h⟩ => tG_bind hs hl h _ fun w st1 μ1 H1 v e1 s1 r1 h1 => by subst r1; exact h1.here s1 rfl
theorem qw_and1 {ba : Bv} {pos : Pos} (ha : PT X a (tT Γ Wx ba)) : PW X (.BoolOp .And [a] pos) (tT Γ Wx ba) := pw_and1 ha
theorem qw_or1 {ba : Bv} {pos : Pos} (ha : PT X a (tT Γ Wx ba)) : PW X (.BoolOp .Or [a] pos) (tT Γ Wx ba) := pw_or1 ha
theorem qw_pt {ba : Bv} {e : Expr} (h : PW X e (tT Γ Wx ba)) : PT X e (tT Γ Wx ba) := h.pt
theorem qw_and {ba bb : Bv} {rest : List Expr} {pos : Pos} (ha : PT X a (tT Γ Wx ba)) (hb : PW X (.BoolOp .And (b :: rest) pos) (tT Γ Wx bb)) : PW X (.BoolOp .And (a :: b :: rest) pos) (tT Γ Wx (bAnd ba bb)) :=
  PW_imp (pw_and ha hb) fun σ H Q ⟨μ, l, st, hs, hl, h⟩ => tG_bind hs hl h _ fun c st1 μ1 H1 v e1 s1 r1 h1 => by
    subst r1
    split
    · rename_i hc
      rw [if_pos hc] at h1
      exact ⟨μ1, l, st1, s1, hl.mono e1, h1⟩
    · rename_i hc
      rw [if_neg hc] at h1
      exact h1.here s1 rfl
theorem qw_or {ba bb : Bv} {rest : List Expr} {pos : Pos} (ha : PT X a (tT Γ Wx ba)) (hb : PW X (.BoolOp .Or (b :: rest) pos) (tT Γ Wx bb)) : PW X (.BoolOp .Or (a :: b :: rest) pos) (tT Γ Wx (bOr ba bb)) :=
  PW_imp (pw_or ha hb) fun σ H Q ⟨μ, l, st, hs, hl, h⟩ => tG_bind hs hl h _ fun c st1 μ1 H1 v e1 s1 r1 h1 => by
    subst r1
    split
    · rename_i hc
      rw [if_pos hc] at h1
      exact h1.here s1 rfl
    · rename_i hc
      rw [if_neg hc] at h1
      exact ⟨μ1, l, st1, s1, hl.mono e1, h1⟩
theorem qe_one {o : BoolOp} {pos : Pos} (ha : PE X a (tE Γ Wx ea)) : PE X (.BoolOp o [a] pos) (tE Γ Wx ea) := pe_one ha
theorem qe_and {rest : List Expr} {pos : Pos} (ha : PE X a (tE Γ Wx ea)) (hb : PE X (.BoolOp .And (b :: rest) pos) (tE Γ Wx eb)) : PE X (.BoolOp .And (a :: b :: rest) pos) (tE Γ Wx (eAnd ea eb)) :=
  PE_imp (pe_and ha hb) fun σ H Q ⟨μ, l, st, hs, hl, h⟩ => tG_bind hs hl h _ fun w st1 μ1 H1 v e1 s1 r1 h1 => by
    split at h1
    · rename_i c
      cases r1
      refine ⟨c, rfl, ?_⟩
      split
      · rename_i hc
        rw [if_pos hc] at h1
        exact ⟨μ1, l, st1, s1, hl.mono e1, h1⟩
      · rename_i hc
        rw [if_neg hc] at h1
        exact h1.here s1 (.bl false)
    · exact h1.elim
theorem qe_or {rest : List Expr} {pos : Pos} (ha : PE X a (tE Γ Wx ea)) (hb : PE X (.BoolOp .Or (b :: rest) pos) (tE Γ Wx eb)) : PE X (.BoolOp .Or (a :: b :: rest) pos) (tE Γ Wx (eOr ea eb)) :=
  PE_imp (pe_or ha hb) fun σ H Q ⟨μ, l, st, hs, hl, h⟩ => tG_bind hs hl h _ fun w st1 μ1 H1 v e1 s1 r1 h1 => by
    split at h1
    · rename_i c
      cases r1
      refine ⟨c, rfl, ?_⟩
      split
      · rename_i hc
        rw [if_pos hc] at h1
        exact h1.here s1 (.bl true)
      · rename_i hc
        rw [if_neg hc] at h1
        exact ⟨μ1, l, st1, s1, hl.mono e1, h1⟩
    · exact h1.elim
theorem qe_not {pos : Pos} (ha : PE X a (tE Γ Wx ea)) : PE X (.UnaryOp .Not a pos) (tE Γ Wx (eNot ea)) :=
  PE_imp (pe_not ha) fun σ H Q ⟨μ, l, st, hs, hl, h⟩ => tG_bind hs hl h _ fun w st1 μ1 H1 v e1 s1 r1 h1 => by
    split at h1
    · rename_i c
      cases r1
      exact ⟨c, rfl, h1.here s1 (.bl _)⟩
    · exact h1.elim
theorem qe_if {c : Expr} {bc : Bv} {pos : Pos} (hc : PT X c (tT Γ Wx bc)) (ha : PE X a (tE Γ Wx ea)) (hb : PE X b (tE Γ Wx eb)) : PE X (.IfExp c a b pos) (tE Γ Wx (eIf bc ea eb)) :=
  PE_imp (pe_ifExp hc ha hb) fun σ H Q ⟨μ, l, st, hs, hl, h⟩ => tG_bind hs hl h _ fun k st1 μ1 H1 v e1 s1 r1 h1 => by
    subst r1
    split
    · rename_i hc
      rw [if_pos hc] at h1
      exact ⟨μ1, l, st1, s1, hl.mono e1, h1⟩
    · rename_i hc
      rw [if_neg hc] at h1
      exact ⟨μ1, l, st1, s1, hl.mono e1, h1⟩
/-- a built-in function or type by values, run -/
def CallOk (Γ : Gm) (r : List V → Hp → VK → Prop) (F : List W → Sto → Res W) : Prop := ∀ (Wx : WX) μ (σ : L2.St) H st ws xs (Q : VK), Sim Γ μ st H → Reps Γ.K μ H ws xs → Post Γ Wx (Rep Γ.K) μ σ H Q (F ws st) → r xs H Q
theorem tCB_run {r : List V → Hp → VK → Prop} {F : List W → Sto → Res W} (hF : CallOk Γ r F) (σ : L2.St) (H : Hp) (Q : VK) (h : tE Γ Wx (eB F eas) σ H Q) : tCB r (tA Γ Wx eas) σ H Q := by
  obtain ⟨μ, l, st, hs, hl, h⟩ := h
  exact tG_bind hs hl h _ fun ws st1 μ1 H1 xs e1 s1 r1 h1 => hF Wx μ1 σ H1 st1 ws xs Q s1 r1 h1
end
end RB

set_option Elab.async false
set_option linter.all false
set_option maxRecDepth 100000
set_option maxHeartbeats 4000000
namespace RB
open PySem PySem.Spec PyProof.Rows L2

def PostS (Γ : Gm) (Wx : WX) (μ : List Addr) (H : Hp) (D : Ends) : RS → Prop
  | .nx l st => ∀ μ' H' σ', Ext Γ.K μ μ' H H' → Sim Γ μ' st H' → LRep Γ.K μ' H' l σ' → D.nx σ' H'
  | .rt w st => ∀ μ' H' v, Ext Γ.K μ μ' H H' → Sim Γ μ' st H' → Rep Γ.K μ' H' w v → D.rt v H'
  | .bk l st => ∀ μ' H' σ', Ext Γ.K μ μ' H H' → Sim Γ μ' st H' → LRep Γ.K μ' H' l σ' → D.bk σ' H'
  | .ct l st => ∀ μ' H' σ', Ext Γ.K μ μ' H H' → Sim Γ μ' st H' → LRep Γ.K μ' H' l σ' → D.ct σ' H'
  | .exc c p l st => ∀ μ' H' σ' d v, Ext Γ.K μ μ' H H' → Sim Γ μ' st H' → LRep Γ.K μ' H' l σ' → Rep Γ.K μ' H' p v → H' d = some (.xd [(Γ.fld c, v)]) → Wx (.ref (Γ.ec c)) (some d) σ' H'
  | .err => False
def tS (Γ : Gm) (Wx : WX) (s : Sx) : TS := fun D σ H => ∃ μ l st, Sim Γ μ st H ∧ LRep Γ.K μ H l σ ∧ PostS Γ Wx μ H D (s l st)
def xs {α : Type} (r : Res α) (l : Lo) (k : α → Sto → RS) : RS := match r with | .ok a st => k a st | .exc c p st => .exc c p l st | .err => .err
/-- a target: names, bound from a value -/
abbrev Tg := W → Lo → Sto → Option Lo
abbrev Tgs := List W → Lo → Sto → Option Lo
def tgName (i : Nat) : Tg := fun w l _ => some (l.set i (some w))
def tgNil : Tgs := fun ws l _ => match ws with | [] => some l | _ => none
def tgCons (a : Tg) (b : Tgs) : Tgs := fun ws l st => match ws with | w :: r => (a w l st).bind fun l1 => b r l1 st | [] => none
def tgTup (n : Nat) (t : Tgs) : Tg := fun w l st => match w with
  | .tup ws => if ws.length = n then t ws l st else none
  | .ref k => match getL st k with | some ws => if ws.length = n then t ws l st else none | none => none
  | _ => none
/-- what a for walks -/
inductive Src where
  | fix (ws : List W) | live (n : Nat) | enum (s : Src) | zip (a b : Src)
def Src.at (st : Sto) (i : Nat) : Src → Option (Option W)
  | .fix ws => some ws[i]?
  | .live n => (getL st n).map (·[i]?)
  | .enum s => (Src.at st i s).map fun o => o.map fun w => .tup [.int (i : Nat), w]
  | .zip a b => (Src.at st i a).bind fun x => (Src.at st i b).bind fun y => match x, y with | some x, some y => some (some (.tup [x, y])) | _, _ => some none
def loopF (s : Src) (tg : Tg) (body : Sx) : Nat → Nat → Lo → Sto → RS
  | 0, _, _, _ => .err
  | f + 1, i, l, st => match s.at st i with
    | none => .err
    | some none => .nx l st
    | some (some w) => match tg w l st with
      | none => .err
      | some l1 => match body l1 st with
        | .nx l2 st2 => loopF s tg body f (i + 1) l2 st2
        | .ct l2 st2 => loopF s tg body f (i + 1) l2 st2
        | .bk l2 st2 => .nx l2 st2
        | r => r
def whileF (c : Bv) (body : Sx) : Nat → Lo → Sto → RS
  | 0, _, _ => .err
  | f + 1, l, st => xs (c l st) l fun b st1 => if b = true then (match body l st1 with
        | .nx l2 st2 => whileF c body f l2 st2
        | .ct l2 st2 => whileF c body f l2 st2
        | .bk l2 st2 => .nx l2 st2
        | r => r) else .nx l st1
def sNil : Sx := fun l st => .nx l st
def sSeq (a b : Sx) : Sx := fun l st => match a l st with | .nx l1 st1 => b l1 st1 | r => r
def sSet (tg : Tg) (e : Ev) : Sx := fun l st => xs (e l st) l fun w st1 => match tg w l st1 with | some l1 => .nx l1 st1 | none => .err
def sDrop (e : Ev) : Sx := fun l st => xs (e l st) l fun _ st1 => .nx l st1
def sRet (e : Ev) : Sx := fun l st => xs (e l st) l fun w st1 => .rt w st1
def sRetN : Sx := fun _ st => .rt .non st
def sIf (c : Bv) (a b : Sx) : Sx := fun l st => xs (c l st) l fun k st1 => if k = true then a l st1 else b l st1
def sBreak : Sx := fun l st => .bk l st
def sCont : Sx := fun l st => .ct l st
def sFor (n : Nat) (src : Lo → Sto → Res Src) (tg : Tg) (body : Sx) : Sx := fun l st => xs (src l st) l fun s st1 => loopF s tg body n 0 l st1
def sWhile (n : Nat) (c : Bv) (body : Sx) : Sx := fun l st => whileF c body n l st

section
variable {Γ : Gm} {Wx : WX} {μ μ' : List Addr} {σ : L2.St} {H H' : Hp} {l : Lo} {st : Sto}
theorem PostS.mono {D : Ends} {r : RS} (h : PostS Γ Wx μ H D r) (e : Ext Γ.K μ μ' H H') : PostS Γ Wx μ' H' D r := by
  cases r with
  | nx l st => exact fun a b c e2 => h a b c (e.trans e2)
  | rt w st => exact fun a b c e2 => h a b c (e.trans e2)
  | bk l st => exact fun a b c e2 => h a b c (e.trans e2)
  | ct l st => exact fun a b c e2 => h a b c (e.trans e2)
  | exc c p l st => exact fun a b c d v e2 => h a b c d v (e.trans e2)
  | err => exact h
theorem PostS.here {D : Ends} (h : PostS Γ Wx μ H D (.nx l st)) (hs : Sim Γ μ st H) (hl : LRep Γ.K μ H l σ) : D.nx σ H := h μ H σ .refl hs hl
theorem tG_bindS {α β : Type} {R : RR α β} {f : Lo → Sto → Res α} {k : α → Sto → RS} {D : Ends} (hs : Sim Γ μ st H) (hl : LRep Γ.K μ H l σ) (h : PostS Γ Wx μ H D (xs (f l st) l k)) (S : β → Hp → Prop)
    (hS : ∀ a st1 μ1 H1 b, Ext Γ.K μ μ1 H H1 → Sim Γ μ1 st1 H1 → R μ1 H1 a b → PostS Γ Wx μ1 H1 D (k a st1) → S b H1) : tG Γ Wx R f σ H S := by
  refine ⟨μ, l, st, hs, hl, ?_⟩
  cases e : f l st with
  | ok a st1 =>
    rw [e] at h
    exact fun μ1 H1 b e1 s1 r1 => hS a st1 μ1 H1 b e1 s1 r1 (PostS.mono (show PostS Γ Wx μ H D (k a st1) from h) e1)
  | exc c p st1 =>
    rw [e] at h
    exact fun μ1 H1 d v e1 s1 r1 q1 => h μ1 H1 σ d v e1 s1 (hl.mono e1) r1 q1
  | err => rw [e] at h; exact h

def gT (Γ : Gm) (tg : Tg) : TG := fun v σ H Q => ∃ μ l st w l', Sim Γ μ st H ∧ LRep Γ.K μ H l σ ∧ Rep Γ.K μ H w v ∧ tg w l st = some l' ∧ ∀ σ', LRep Γ.K μ H l' σ' → Q σ' H
def gTs (Γ : Gm) (tg : Tgs) : TGs := fun v σ H Q => ∃ μ l st w l', Sim Γ μ st H ∧ LRep Γ.K μ H l σ ∧ Reps Γ.K μ H w v ∧ tg w l st = some l' ∧ ∀ σ', LRep Γ.K μ H l' σ' → Q σ' H
end
section
variable {X : Cx} {Γ : Gm} {Wx : WX} {e a b : Expr} {es : List Expr} {ea eb : Ev} {eas : Evs}
theorem PG_imp {t t' : TG} (h : PG X e t) (k : ∀ v σ H Q, t' v σ H Q → t v σ H Q) : PG X e t' := ⟨fun pins s σ H v u Q I r q => h.run pins s σ H v u Q I r (k _ _ _ _ q)⟩
theorem PG_or {t t' : TG} (h : PG X e t) (h' : PG X e t') : PG X e (fun v σ H Q => t v σ H Q ∨ t' v σ H Q) := ⟨fun pins s σ H v u Q I r q => q.elim (h.run pins s σ H v u Q I r) (h'.run pins s σ H v u Q I r)⟩
theorem PGs_imp {t t' : TGs} (h : PGs X es t) (k : ∀ v σ H Q, t' v σ H Q → t v σ H Q) : PGs X es t' := ⟨fun pins s σ H v u Q I r q => h.run pins s σ H v u Q I r (k _ _ _ _ q)⟩
theorem qg_name {i : Nat} {x : Str} {pos : Pos} (hN : X.N.Nodup) (hi : X.N[i]? = some x) (hx : L2.Loc X.env.scope x) (hf : X.fn x = true ∨ X.env.scope.names.lookup x = some .local := by first | exact .inl rfl | exact .inr rfl | assumption) : PG X (.Name x pos) (gT Γ (tgName i)) :=
  PG_imp (pg_name hN hi hx hf) fun v σ H Q ⟨μ, l, st, w, l', hs, hl, hr, h1, h2⟩ => by
    cases h1
    exact h2 _ (hl.set hr i)
theorem qg_nil : PGs X [] (gTs Γ tgNil) := PGs_imp pgs_nil fun v σ H Q ⟨μ, l, st, w, l', hs, hl, hr, h1, h2⟩ => by
  cases hr with
  | nil => cases h1; exact ⟨rfl, h2 _ hl⟩
  | cons _ _ => cases h1
theorem qg_cons {ta : Tg} {tb : Tgs} (ha : PG X e (gT Γ ta)) (hb : PGs X es (gTs Γ tb)) (he : (assignEach (e :: es) X.env).map (·.2) = assign e X.env :: (assignEach es X.env).map (·.2) := by rfl) : PGs X (e :: es) (gTs Γ (tgCons ta tb)) :=
  PGs_imp (pgs_cons ha hb he) fun v σ H Q ⟨μ, l, st, w, l', hs, hl, hr, h1, h2⟩ => by
    cases hr with
    | nil => cases h1
    | @cons w1 v1 ws vs r1 r2 =>
      have h1 : (ta w1 l st).bind (fun l1 => tb ws l1 st) = some l' := h1
      cases e1 : ta w1 l st with
      | none => rw [e1] at h1; cases h1
      | some l1 =>
        rw [e1] at h1
        exact ⟨_, _, rfl, μ, l, st, w1, l1, hs, hl, r1, e1, fun σ1 hl1 => ⟨μ, l1, st, ws, l', hs, hl1, r2, h1, h2⟩⟩
theorem qg_tup {k n : Nat} {t : Tgs} {pos : Pos} (hK : X.K = Γ.K) (hc : X.calm = true) (h : PGs X es (gTs Γ t)) (hn : (assignEach es X.env).length = n := by rfl) (hst : (assignEach es X.env).findIdx? (·.1) = none := by rfl) : PG X (.Tuple es k pos) (gT Γ (tgTup n t)) :=
  PG_imp (PG_or (pg_tup (k := k) (pos := pos) hc h hn hst) (pg_lst (k := k) (pos := pos) hc h hn hst)) fun v σ H Q ⟨μ, l, st, w, l', hs, hl, hr, h1, h2⟩ => by
    rw [hK]
    cases w with
    | tup ws =>
      cases hr with
      | tup q1 q2 =>
        simp only [tgTup] at h1
        split at h1
        · rename_i hlen
          exact .inl ⟨_, _, rfl, q1, by rw [← q2.length]; exact hlen, μ, l, st, ws, l', hs, hl, q2, h1, h2⟩
        · cases h1
    | ref k =>
      simp only [tgTup] at h1
      cases e1 : getL st k with
      | none => rw [e1] at h1; cases h1
      | some ws =>
        rw [e1] at h1
        obtain ⟨a, xs, rfl, q1, q2⟩ := getL_rep hs e1 hr
        dsimp only at h1
        split at h1
        · rename_i hlen
          exact .inr ⟨_, _, rfl, q1, by rw [← q2.length]; exact hlen, μ, l, st, ws, l', hs, hl, q2, h1, h2⟩
        · cases h1
    | _ => cases h1

theorem qs_nil : PSs X [] (tS Γ Wx sNil) := PSs_imp pss_nil fun D σ H ⟨μ, l, st, hs, hl, h⟩ => h.here hs hl
theorem qs_pass {pos : Pos} : PS X (.Pass pos) (tS Γ Wx sNil) := PS_imp ps_pass fun D σ H ⟨μ, l, st, hs, hl, h⟩ => h.here hs hl
theorem qs_doc {x : Str} {j : Nat} {pos pos' : Pos} : PS X (.Expr (.Constant (.str x) j pos) pos') (tS Γ Wx sNil) := PS_imp ps_doc fun D σ H ⟨μ, l, st, hs, hl, h⟩ => h.here hs hl
theorem qs_break {pos : Pos} : PS X (.Break pos) (tS Γ Wx sBreak) := PS_imp ps_break fun D σ H ⟨μ, l, st, hs, hl, h⟩ => h μ H σ .refl hs hl
theorem qs_cont {pos : Pos} : PS X (.Continue pos) (tS Γ Wx sCont) := PS_imp ps_continue fun D σ H ⟨μ, l, st, hs, hl, h⟩ => h μ H σ .refl hs hl
theorem qs_cons {s : Stmt} {rest : List Stmt} {x y : Sx} (ha : PS X s (tS Γ Wx x)) (hb : PSs X rest (tS Γ Wx y)) : PSs X (s :: rest) (tS Γ Wx (sSeq x y)) :=
  PSs_imp (pss_cons ha hb) fun D σ H ⟨μ, l, st, hs, hl, h⟩ => by
    refine ⟨μ, l, st, hs, hl, ?_⟩
    unfold sSeq at h
    cases e : x l st with
    | nx l1 st1 =>
      rw [e] at h
      exact fun μ1 H1 σ1 e1 s1 l1' => ⟨μ1, l1, st1, s1, l1', PostS.mono h e1⟩
    | rt w st1 => rw [e] at h; exact h
    | bk l1 st1 => rw [e] at h; exact h
    | ct l1 st1 => rw [e] at h; exact h
    | exc c p l1 st1 => rw [e] at h; exact h
    | err => rw [e] at h; exact h
theorem qs_one {s : Stmt} {x : Sx} (ha : PS X s (tS Γ Wx x)) : PSs X [s] (tS Γ Wx x) := pss_one ha
theorem qs_set {tg : Expr} {t : Tg} {pos : Pos} (he : PE X e (tE Γ Wx ea)) (hg : PG X tg (gT Γ t)) (hs : swapsWithSole [tg] e pos.line X.env = pure false := by rfl) (hw : swappedStores [tg] e X.env = pure none := by rfl)
    (h1 : (assignEach [tg] X.env).map (·.2) = [assign tg X.env] := by rfl) : PS X (.Assign [tg] e pos) (tS Γ Wx (sSet t ea)) :=
  PS_imp (ps_asg he hg hs hw h1) fun D σ H ⟨μ, l, st, hs, hl, h⟩ => tG_bindS hs hl h _ fun w st1 μ1 H1 v e1 s1 r1 h1 => by
    split at h1
    · rename_i l1 hl1
      exact ⟨μ1, l, st1, w, l1, s1, hl.mono e1, r1, hl1, fun σ' q => h1.here s1 q⟩
    · exact h1.elim
theorem qs_drop {pos : Pos} (he : PE X e (tE Γ Wx ea)) (hs : swapsWith e none pos.line X.env = pure false := by rfl) : PS X (.Expr e pos) (tS Γ Wx (sDrop ea)) :=
  PS_imp (ps_expr he hs) fun D σ H ⟨μ, l, st, hs, hl, h⟩ => tG_bindS hs hl h _ fun w st1 μ1 H1 v e1 s1 r1 h1 => h1.here s1 (hl.mono e1)
theorem qs_ret {pos : Pos} (he : PE X e (tE Γ Wx ea)) : PS X (.Return (some e) pos) (tS Γ Wx (sRet ea)) :=
  PS_imp (ps_ret he) fun D σ H ⟨μ, l, st, hs, hl, h⟩ => tG_bindS hs hl h _ fun w st1 μ1 H1 v e1 s1 r1 h1 => h1 _ _ _ .refl s1 r1
theorem qs_retN {pos : Pos} : PS X (.Return none pos) (tS Γ Wx sRetN) := PS_imp ps_retN fun D σ H ⟨μ, l, st, hs, hl, h⟩ => h _ _ _ .refl hs .non
theorem qs_if {c : Expr} {p q : List Stmt} {bc : Bv} {x y : Sx} {pos : Pos} (hc : PT X c (tT Γ Wx bc)) (ha : PSs X p (tS Γ Wx x)) (hb : PSs X q (tS Γ Wx y)) : PS X (.If c p q pos) (tS Γ Wx (sIf bc x y)) :=
  PS_imp (ps_if hc ha hb) fun D σ H ⟨μ, l, st, hs, hl, h⟩ => tG_bindS hs hl h _ fun w st1 μ1 H1 v e1 s1 r1 h1 => by
    subst r1
    split
    · rename_i hw
      rw [if_pos hw] at h1
      exact ⟨μ1, l, st1, s1, hl.mono e1, h1⟩
    · rename_i hw
      rw [if_neg hw] at h1
      exact ⟨μ1, l, st1, s1, hl.mono e1, h1⟩

def ItOk (Γ : Gm) (J : It) (s : Src) (μ : List Addr) (H : Hp) : Prop := ∀ μ' H' st', Ext Γ.K μ μ' H H' → Sim Γ μ' st' H' → ∀ i, (∀ w, s.at st' i = some (some w) → J.go i H' ∧ ∀ x H'', J.yld i H' x H'' → Ext Γ.K μ' μ' H' H'' ∧ Sim Γ μ' st' H'' ∧ Rep Γ.K μ' H'' w x) ∧ (s.at st' i = some none → J.stop i H')
def tI (Γ : Gm) (Wx : WX) (src : Lo → Sto → Res Src) : TI := fun σ H R => ∃ μ l st, Sim Γ μ st H ∧ LRep Γ.K μ H l σ ∧ match src l st with
  | .ok s st' => ∀ μ' H' J, Ext Γ.K μ μ' H H' → Sim Γ μ' st' H' → ItOk Γ J s μ' H' → R J H'
  | .exc c p st' => ∀ μ' H' d v, Ext Γ.K μ μ' H H' → Sim Γ μ' st' H' → Rep Γ.K μ' H' p v → H' d = some (.xd [(Γ.fld c, v)]) → Wx (.ref (Γ.ec c)) (some d) σ H'
  | .err => False
theorem PI_imp {tg iter : Expr} {t t' : TI} (h : PI X tg iter t) (k : ∀ σ H R, t' σ H R → t σ H R) : PI X tg iter t' := ⟨fun pins s σ H R I q => h.run pins s σ H R I (k _ _ _ q)⟩
theorem PI_or {tg iter : Expr} {t t' : TI} (h : PI X tg iter t) (h' : PI X tg iter t') : PI X tg iter (fun σ H R => t σ H R ∨ t' σ H R) := ⟨fun pins s σ H R I q => q.elim (h.run pins s σ H R I) (h'.run pins s σ H R I)⟩
theorem ItOk.mono {J : It} {s : Src} {μ μ' : List Addr} {H H' : Hp} (h : ItOk Γ J s μ H) (e : Ext Γ.K μ μ' H H') : ItOk Γ J s μ' H' := fun a b c e2 => h a b c (e.trans e2)
theorem qs_for {tg iter : Expr} {body : List Stmt} {n : Nat} {src : Lo → Sto → Res Src} {t : Tg} {x : Sx} {pos : Pos} (hp : PassesOwn (model X.prog X.w) X.A X.env X.xe) (hc : X.calm = true) (hi : PI X tg iter (tI Γ Wx src)) (hg : PG X tg (gT Γ t)) (hb : PSs X body (tS Γ Wx x)) (hs : ∀ x, foldedSetIterable iter X.env x = pure x := by intro _; rfl) :
    PS X (.For tg iter body [] pos) (tS Γ Wx (sFor n src t x)) :=
  PS_imp (ps_for hp hc hi hg hb hs) fun D σ H ⟨μ, l, st, hs, hl, h⟩ => by
    refine ⟨μ, l, st, hs, hl, ?_⟩
    unfold sFor at h
    cases e : src l st with
    | err => rw [e] at h; exact h
    | exc c p st1 =>
      rw [e] at h
      exact fun μ1 H1 d v e1 s1 r1 q1 => h μ1 H1 σ d v e1 s1 (hl.mono e1) r1 q1
    | ok s st1 =>
      rw [e] at h
      intro μ1 H1 J e1 s1 hJ
      have h1 : PostS Γ Wx μ1 H1 D (loopF s t x n 0 l st1) := PostS.mono h e1
      refine ⟨fun i m σ' H' => ∃ μ' l' st', Ext Γ.K μ1 μ' H1 H' ∧ Sim Γ μ' st' H' ∧ LRep Γ.K μ' H' l' σ' ∧ PostS Γ Wx μ' H' D (loopF s t x m i l' st'), ⟨n, μ1, l, st1, .refl, s1, hl.mono e1, h1⟩, ?_⟩
      rintro i m σ' H' ⟨μ2, l2, st2, e2, s2, lr2, h2⟩
      obtain ⟨go, stop⟩ := hJ μ2 H' st2 e2 s2 i
      cases m with
      | zero => exact h2.elim
      | succ m =>
        unfold loopF at h2
        cases ea : s.at st2 i with
        | none => rw [ea] at h2; exact h2.elim
        | some o =>
          cases o with
          | none =>
            rw [ea] at h2
            exact .inl ⟨stop ea, h2.here s2 lr2⟩
          | some w =>
            rw [ea] at h2
            obtain ⟨go1, go2⟩ := go w ea
            refine .inr ⟨go1, fun σ3 H3 => ∃ μ' l' st', Ext Γ.K μ1 μ' H1 H3 ∧ Sim Γ μ' st' H3 ∧ LRep Γ.K μ' H3 l' σ3 ∧ PostS Γ Wx μ' H3 D (loopF s t x m (i + 1) l' st'), fun σ3 H3 q => ⟨m, Nat.lt_succ_self _, q⟩, fun v H3 hy => ?_⟩
            obtain ⟨y1, y2, y3⟩ := go2 v H3 hy
            dsimp only at h2
            cases et : t w l2 st2 with
            | none => rw [et] at h2; exact h2.elim
            | some l3 =>
              rw [et] at h2
              refine ⟨μ2, l2, st2, w, l3, y2, lr2.mono y1, y3, et, fun σ4 lr4 => ⟨μ2, l3, st2, y2, lr4, ?_⟩⟩
              dsimp only at h2
              have e3 := e2.trans y1
              have h2 := PostS.mono h2 y1
              cases eb : x l3 st2 with
              | nx l5 st5 => rw [eb] at h2; exact fun μ6 H6 σ6 e6 s6 lr6 => ⟨μ6, l5, st5, e3.trans e6, s6, lr6, PostS.mono h2 e6⟩
              | ct l5 st5 => rw [eb] at h2; exact fun μ6 H6 σ6 e6 s6 lr6 => ⟨μ6, l5, st5, e3.trans e6, s6, lr6, PostS.mono h2 e6⟩
              | bk l5 st5 => rw [eb] at h2; exact h2
              | rt w5 st5 => rw [eb] at h2; exact h2
              | exc c5 p5 l5 st5 => rw [eb] at h2; exact h2
              | err => rw [eb] at h2; exact h2
theorem qs_while {c : Expr} {body : List Stmt} {n : Nat} {bc : Bv} {x : Sx} {pos : Pos} (hp : PassesOwn (model X.prog X.w) X.A X.env X.xe) (hc : PT X c (tT Γ Wx bc)) (hb : PSs X body (tS Γ Wx x)) :
    PS X (.While c body [] pos) (tS Γ Wx (sWhile n bc x)) :=
  PS_imp (ps_while hp hc hb) fun D σ H ⟨μ, l, st, hs, hl, h⟩ => by
    refine ⟨fun m σ' H' => ∃ μ' l' st', Sim Γ μ' st' H' ∧ LRep Γ.K μ' H' l' σ' ∧ PostS Γ Wx μ' H' D (whileF bc x m l' st'), ⟨n, μ, l, st, hs, hl, h⟩, ?_⟩
    rintro m σ' H' ⟨μ2, l2, st2, s2, lr2, h2⟩
    cases m with
    | zero => exact h2.elim
    | succ m =>
      unfold whileF at h2
      refine tG_bindS s2 lr2 h2 _ fun b st3 μ3 H3 b' e3 s3 r3 h3 => ?_
      subst r3
      cases b with
      | false => exact h3.here s3 (lr2.mono e3)
      | true =>
        refine ⟨fun σ4 H4 => ∃ μ' l' st', Sim Γ μ' st' H4 ∧ LRep Γ.K μ' H4 l' σ4 ∧ PostS Γ Wx μ' H4 D (whileF bc x m l' st'), fun σ4 H4 q => ⟨m, Nat.lt_succ_self _, q⟩, μ3, l2, st3, s3, lr2.mono e3, ?_⟩
        have h3 : PostS Γ Wx μ3 H3 D (match x l2 st3 with | .nx l2 st2 => whileF bc x m l2 st2 | .ct l2 st2 => whileF bc x m l2 st2 | .bk l2 st2 => .nx l2 st2 | r => r) := h3
        cases eb : x l2 st3 with
        | nx l5 st5 => rw [eb] at h3; exact fun μ6 H6 σ6 e6 s6 lr6 => ⟨μ6, l5, st5, s6, lr6, PostS.mono h3 e6⟩
        | ct l5 st5 => rw [eb] at h3; exact fun μ6 H6 σ6 e6 s6 lr6 => ⟨μ6, l5, st5, s6, lr6, PostS.mono h3 e6⟩
        | bk l5 st5 => rw [eb] at h3; exact h3
        | rt w5 st5 => rw [eb] at h3; exact h3
        | exc c5 p5 l5 st5 => rw [eb] at h3; exact h3
        | err => rw [eb] at h3; exact h3

def defn (n : Nat) (body : Sx) : List W → Sto → Res W := fun ws st => match body (ws.map some ++ List.replicate (n - ws.length) none) st with
  | .nx _ st' => trim st.c.length .non st'
  | .rt w st' => trim st.c.length w st'
  | .exc c p _ st' => if (st'.may st.c.length && W.pure p) = true then .exc c p (st'.cut st.c.length) else .exc c p st'
  | _ => .err
/-- what a def promises: run, it ends so -/
def spF (Γ : Gm) (np : Nat) (F : List W → Sto → Res W) : Sp := fun vs H Q E => ∃ μ st ws, Sim Γ μ st H ∧ Reps Γ.K μ H ws vs ∧ ws.length = np ∧ Post Γ (fun cls d _ H => E cls d H) (Rep Γ.K) μ [] H Q (F ws st)
theorem spF_len {np : Nat} {F : List W → Sto → Res W} {vs : List V} {H : Hp} {Q : VK} {E : XK} (h : spF Γ np F vs H Q E) : vs.length = np := by
  obtain ⟨μ, st, ws, hs, hr, hl, _⟩ := h
  rw [← hr.length, hl]
theorem Sim.cutPush {Γ : Gm} {μ : List Addr} {st : Sto} {H : Hp} {n k : Nat} {a : Addr} {ws : List W} (s : Sim Γ μ st H) (h : st.may n = true) (hnk : n ≤ k) (hk : st.c[k]? = some (.lst ws)) (hp : W.pures ws = true) (ha : μ[k]? = some a) :
    Sim Γ (μ.take n ++ [a]) ((st.cut n).push (.lst ws)) H := by
  have s0 := s.cut h
  have kl := (List.getElem?_eq_some_iff.mp hk).1
  have ml := s.len
  have sl : (st.cut n).c.length = n := by simp [Sto.cut]; omega
  have tl : (μ.take n).length = n := by simp; omega
  refine ⟨by simp [Sto.push, sl, tl], fun i j b c d h1 h2 o1 o2 m1 m2 => ?_, fun i c b h1 m1 => ?_, fun i c h1 _ => ?_⟩
  · have key : ∀ (i : Nat) c, (st.cut n).c[i]? = some c → c.own = true → (μ.take n ++ [a])[i]? = some a → False := fun i c h1 o1 m1 => by
      obtain ⟨h1, hi⟩ := getTake h1
      rw [List.getElem?_append_left (by omega)] at m1
      have := s.inj i k a c _ h1 hk o1 rfl (getTake m1).1 ha
      omega
    have at_ : ∀ b, (μ.take n ++ [a])[n]? = some b → b = a := fun b q => by
      rw [List.getElem?_append_right (by omega)] at q
      simp [tl] at q
      exact q.symm
    rcases get_snoc h1 with h1 | ⟨e1, z1⟩
    · rcases get_snoc h2 with h2 | ⟨e2, z2⟩
      · have hi := (getTake h1).2
        have hj := (getTake h2).2
        rw [List.getElem?_append_left (by omega)] at m1 m2
        exact s0.inj i j b c d h1 h2 o1 o2 m1 m2
      · rw [e2, sl] at m2
        have := at_ _ m2
        subst this
        exact (key i c h1 o1 m1).elim
    · rcases get_snoc h2 with h2 | ⟨e2, z2⟩
      · rw [e1, sl] at m1
        have := at_ _ m1
        subst this
        exact (key j d h2 o2 m2).elim
      · omega
  · rcases get_snoc h1 with h1 | ⟨e1, z1⟩
    · have hi := (getTake h1).2
      rw [List.getElem?_append_left (by omega)] at m1
      have q := s0.cell i c b h1 m1
      exact CellOk.ext q ⟨fun j x y => by
        have := (List.getElem?_eq_some_iff.mp y).1
        rw [List.getElem?_append_left this]; exact y, fun _ _ h => h⟩
    · subst z1
      rw [e1, sl, List.getElem?_append_right (by omega)] at m1
      simp [tl] at m1
      subst m1
      obtain ⟨xs, q1, q2⟩ := s.cell k _ _ hk ha
      exact ⟨xs, q1, Reps.pure hp q2⟩
  · rcases get_snoc h1 with h1 | ⟨e1, z1⟩
    · exact s0.back i c h1 (fun k z => by cases z)
    · subst z1
      exact W.pures_low hp
theorem Sim.reloc {Γ : Gm} {μ : List Addr} {st : Sto} {H : Hp} {n : Nat} {ks : List Nat} (s : Sim Γ μ st H) (h : st.may n = true) (hn : n ≤ st.c.length) (g : ReloOk st n ks) :
    Sim Γ (μ.take n ++ ks.map fun k => μ.getD k 0) ⟨st.c.take n ++ ks.map fun k => st.c.getD k (.lst []), none⟩ H := by
  have s0 := s.cut h
  have ml := s.len
  have tl : (μ.take n).length = n := by simp; omega
  have sl : (st.c.take n).length = n := by simp; omega
  have at0 : ∀ (i : Nat) c, (st.c.take n ++ ks.map fun k => st.c.getD k (.lst []))[i]? = some c → (i < n ∧ st.c[i]? = some c) ∨ (∃ q k us, i = n + q ∧ ks[q]? = some k ∧ n ≤ k ∧ st.c[k]? = some c ∧ c = .lst us ∧ W.pures us = true) := fun i c hi => by
    by_cases hl : i < n
    · rw [List.getElem?_append_left (by omega)] at hi
      exact .inl ⟨hl, (getTake hi).1⟩
    · rw [List.getElem?_append_right (by omega), sl, List.getElem?_map] at hi
      cases e : ks[i - n]? with
      | none => rw [e] at hi; cases hi
      | some k =>
        rw [e] at hi
        obtain ⟨h1, us, h2, h3⟩ := g.at' k (List.mem_of_getElem? e)
        have : st.c.getD k (.lst []) = .lst us := by rw [List.getD_eq_getElem?_getD, h2]; rfl
        have hi : some (st.c.getD k (.lst [])) = some c := hi
        rw [this] at hi
        cases hi
        exact .inr ⟨i - n, k, us, by omega, e, h1, h2, rfl, h3⟩
  have ad0 : ∀ (i : Nat) a, i < n → (μ.take n ++ ks.map fun k => μ.getD k 0)[i]? = some a → μ[i]? = some a := fun i a hi ha => by
    rw [List.getElem?_append_left (by omega)] at ha
    exact (getTake ha).1
  have ad1 : ∀ (q k : Nat) a, ks[q]? = some k → (μ.take n ++ ks.map fun k => μ.getD k 0)[n + q]? = some a → μ[k]? = some a := fun q k a hq ha => by
    rw [List.getElem?_append_right (by omega), tl, Nat.add_sub_cancel_left, List.getElem?_map, hq] at ha
    obtain ⟨_, us, h2, _⟩ := g.at' k (List.mem_of_getElem? hq)
    have hk := (List.getElem?_eq_some_iff.mp h2).1
    have ha : some (μ.getD k 0) = some a := ha
    rw [List.getD_eq_getElem?_getD, List.getElem?_eq_getElem (by omega)] at ha
    rw [List.getElem?_eq_getElem (by omega)]
    exact ha
  refine ⟨by simp [s.len], fun i j b c d h1 h2 o1 o2 m1 m2 => ?_, fun i c b h1 m1 => ?_, fun i c h1 _ => ?_⟩
  · rcases at0 i c h1 with ⟨p1, p2⟩ | ⟨q, k, us, rfl, p2, p3, p4, p5, p6⟩
    · rcases at0 j d h2 with ⟨r1, r2⟩ | ⟨q', k', us', rfl, r2, r3, r4, r5, r6⟩
      · exact s.inj i j b c d p2 r2 o1 o2 (ad0 i b p1 m1) (ad0 j b r1 m2)
      · have := s.inj i k' b c d p2 r4 o1 o2 (ad0 i b p1 m1) (ad1 q' k' b r2 m2)
        omega
    · rcases at0 j d h2 with ⟨r1, r2⟩ | ⟨q', k', us', rfl, r2, r3, r4, r5, r6⟩
      · have := s.inj k j b c d p4 r2 o1 o2 (ad1 q k b p2 m1) (ad0 j b r1 m2)
        omega
      · have e := s.inj k k' b c d p4 r4 o1 o2 (ad1 q k b p2 m1) (ad1 q' k' b r2 m2)
        subst e
        obtain ⟨hq, e1⟩ := List.getElem?_eq_some_iff.mp p2
        obtain ⟨hq', e2⟩ := List.getElem?_eq_some_iff.mp r2
        have := (List.getElem_inj (i := q) (j := q') g.nd).mp (e1.trans e2.symm)
        omega
  · rcases at0 i c h1 with ⟨p1, p2⟩ | ⟨q, k, us, rfl, p2, p3, p4, rfl, p6⟩
    · have q1 := s0.cell i c b (by show (st.c.take n)[i]? = _; rw [List.getElem?_take_of_lt p1]; exact p2) (by rw [List.getElem?_take_of_lt p1]; exact ad0 i b p1 m1)
      exact CellOk.ext q1 ⟨fun j x y => by
        have := (List.getElem?_eq_some_iff.mp y).1
        rw [List.getElem?_append_left this]; exact y, fun _ _ h => h⟩
    · obtain ⟨xs, q1, q2⟩ := s.cell k _ _ p4 (ad1 q k b p2 m1)
      exact ⟨xs, q1, Reps.pure p6 q2⟩
  · rcases at0 i c h1 with ⟨p1, p2⟩ | ⟨q, k, us, rfl, p2, p3, p4, rfl, p6⟩
    · exact s0.back i c (by show (st.c.take n)[i]? = _; rw [List.getElem?_take_of_lt p1]; exact p2) (fun k z => by cases z)
    · exact W.pures_low p6
theorem trim_ok {R' : RR W V} {μ μ' : List Addr} {σ : L2.St} {H H' : Hp} {st st' : Sto} {w : W} {v : V} {Q : VK} (h : Post Γ Wx (Rep Γ.K) μ σ H Q (trim st.c.length w st')) (hs : Sim Γ μ st H) (e : Ext Γ.K μ μ' H H') (s : Sim Γ μ' st' H') (r : Rep Γ.K μ' H' w v) : Q v H' := by
  have pre : Ext Γ.K μ (μ'.take st.c.length) H H' := ⟨fun i a q => by
    have := (List.getElem?_eq_some_iff.mp q).1
    have := hs.len
    rw [List.getElem?_take_of_lt (by omega)]
    exact e.pre i a q, e.tup⟩
  unfold trim at h
  split at h
  · rename_i hm
    split at h
    · rename_i hp
      exact h _ _ _ pre (s.cut hm) (r.pure hp)
    · split at h
      · rename_i k _
        split at h
        · rename_i hk
          split at h
          · rename_i ws hc
            split at h
            · rename_i hp
              cases r with
              | ref hr =>
                rename_i a
                refine h _ _ _ ⟨fun i b q => ?_, e.tup⟩ (s.cutPush hm hk hc hp hr) (.ref ?_)
                · have := (List.getElem?_eq_some_iff.mp (pre.pre i b q)).1
                  rw [List.getElem?_append_left this]
                  exact pre.pre i b q
                · have kl := (List.getElem?_eq_some_iff.mp hc).1
                  have ml := s.len
                  have e1 : (st'.cut st.c.length).c.length = (μ'.take st.c.length).length := by simp [Sto.cut, ml]
                  rw [e1, List.getElem?_append_right (Nat.le_refl _)]
                  simp
            · exact h _ _ _ e s r
          · exact h _ _ _ e s r
        · exact h _ _ _ e s r
      · rename_i ws _
        split at h
        · rename_i vs ks hr
          obtain ⟨g1, _, g3⟩ := relo_ok (μ := μ') hr ⟨List.nodup_nil, fun k hk => nomatch hk⟩
          have hn : st.c.length ≤ st'.c.length := by
            rcases Nat.le_total st.c.length st'.c.length with z | z
            · exact z
            · rcases Nat.lt_or_ge st'.c.length st.c.length with y | y
              · exfalso
                have h1 := hs.len
                have h2 := s.len
                have : μ[st'.c.length]? = some μ[st'.c.length] := List.getElem?_eq_getElem (by omega)
                have q := (List.getElem?_eq_some_iff.mp (e.pre _ _ this)).1
                omega
              · exact y
          cases r with
          | tup q1 q2 =>
            have tl : (μ'.take st.c.length).length = st.c.length := by have := s.len; simp; omega
            refine h _ _ _ ⟨fun i b q => ?_, e.tup⟩ (s.reloc hm hn g1) (.tup q1 (g3 (fun q k a hq ha => ?_) q2))
            · have := (List.getElem?_eq_some_iff.mp (pre.pre i b q)).1
              rw [List.getElem?_append_left this]
              exact pre.pre i b q
            · rw [List.getElem?_append_right (by omega), tl, Nat.add_sub_cancel_left, List.getElem?_map, hq]
              show some (μ'.getD k 0) = some a
              rw [List.getD_eq_getElem?_getD, ha]; rfl
        · exact h _ _ _ e s r
      · exact h _ _ _ e s r
  · exact h _ _ _ e s r
end
end RB

set_option Elab.async false
set_option linter.all false
set_option maxRecDepth 100000
set_option maxHeartbeats 4000000
namespace RB
open PySem PySem.Spec PyProof.Rows L2

/-- a def that stands at a name -/
structure Fn (Γ : Gm) (P : Program) (w : World) (mg : Str → Option Value) (base : Heap) (k : Nat) (x : Str) (np : Nat) (dws : List W) (F : List W → Sto → Res W) : Prop where
  ex : ∃ (f : Addr) (fd : FuncData) (ps : List Str) (ds : List Value) (dvs : List V), FnOk P w Γ.K mg base (L2.CX P w) k f fd ps (spF Γ np F) ∧ mg x = some (.ref f) ∧ PySem.W.keepIn Γ.K (.ref f) = true ∧ L2.Binds Γ.K fd ps ds ∧ Vals dvs ds ∧ ∀ μ H, Reps Γ.K μ H dws dvs
def eCall (F : List W → Sto → Res W) (dws : List W) (a : Evs) : Ev := fun l st => (a l st).bind fun ws st1 => F (ws ++ dws) st1
section
variable {P : Program} {w : World} {K : PySem.W.Frag} {mg : Str → Option Value} {base : Heap} {cl ec : Nat → Addr} {fld : Nat → Str}
theorem start_rep {Γ : Gm} {μ : List Addr} {H : Hp} {ws : List W} {vs : List V} (r : Reps Γ.K μ H ws vs) (N : List Str) : LRep Γ.K μ H (ws.map some ++ List.replicate (N.length - ws.length) none) (L2.start N vs) := by
  unfold L2.start
  rw [← r.length]
  refine ⟨by simp [r.length], fun i w h => ?_⟩
  rcases Nat.lt_or_ge i ws.length with q | q
  · rw [List.getElem?_append_left (by simpa using q)] at h
    rw [List.getElem?_map] at h
    cases e : ws[i]? with
    | none => rw [e] at h; cases h
    | some w' =>
      rw [e] at h
      obtain rfl : w' = w := by simpa using h
      obtain ⟨v, h1, h2⟩ := r.get e
      refine ⟨v, ?_, h2⟩
      rw [List.getElem?_append_left (by simp; rw [← r.length]; exact q), List.getElem?_map, h1]
      rfl
  · rw [List.getElem?_append_right (by simpa using q)] at h
    have := List.mem_of_getElem? h
    rw [List.mem_replicate] at this
    exact absurd this.2 (by simp)
theorem body_run {np n : Nat} {N : List Str} {sx : Sx} {vs : List V} {H : Hp} {Q : VK} {E : XK} (hn : N.length = n) (h : spF ⟨K, cl, ec, fld⟩ np (defn n sx) vs H Q E) : tS ⟨K, cl, ec, fld⟩ (fun cls d _ H => E cls d H) sx { nx := fun _ H' => Q .non H', rt := Q } (L2.start N vs) H := by
  obtain ⟨μ, sto, ws, hs, hr, hl, hpo⟩ := h
  refine ⟨μ, _, sto, hs, start_rep (Γ := ⟨K, cl, ec, fld⟩) hr N, ?_⟩
  rw [hn]
  unfold defn at hpo
  generalize sx (ws.map some ++ List.replicate (n - ws.length) none) sto = r at hpo ⊢
  cases r with
  | nx l1 st1 => exact fun μ1 H1 σ1 e1 s1 l1 => trim_ok (R' := fun _ _ _ _ => True) hpo hs e1 s1 .non
  | rt w1 st1 => exact fun μ1 H1 v e1 s1 r1 => trim_ok (R' := fun _ _ _ _ => True) hpo hs e1 s1 r1
  | bk l1 st1 => exact hpo.elim
  | ct l1 st1 => exact hpo.elim
  | err => exact hpo.elim
  | exc c p l1 st1 =>
    intro μ1 H1 σ1 d v e1 s1 _ r1 q1
    have hpo : Post ⟨K, cl, ec, fld⟩ (fun cls d _ H => E cls d H) (Rep K) μ [] H Q (if (st1.may sto.c.length && W.pure p) = true then .exc c p (st1.cut sto.c.length) else .exc c p st1) := hpo
    split at hpo
    · rename_i hm
      rw [Bool.and_eq_true] at hm
      have pre : Ext K μ (μ1.take sto.c.length) H H1 := ⟨fun i a q => by
        have := (List.getElem?_eq_some_iff.mp q).1
        have := hs.len
        rw [List.getElem?_take_of_lt (by omega)]
        exact e1.pre i a q, e1.tup⟩
      exact hpo _ H1 d v pre (s1.cut hm.1) (r1.pure hm.2) q1
    · exact hpo μ1 H1 d v e1 s1 r1 q1
/-- the rule for a def -/
theorem q_ok {x qual : Str} {st : Stmt} {f : Addr} {fd : FuncData} {N ps : List Str} {k np n : Nat} {sx : Sx} (F : L2.Fun K x qual st f fd) (S : FnScope N ps (defScope st)) (hn : N.length = n) (hp : ps.length = np)
    (body : ∀ (cdv : Value) (A : Around) (outer : List Env) (s : Shared) (H : Hp) (E : XK), Room k (A.deeper (envOfC qual (defScope st) s.heap.objs.size f cdv)) →
      PSs (cxOf (L2.CX P w) P w K mg base N qual (defScope st) f cdv A outer s H E) (defBody st) (tS ⟨K, cl, ec, fld⟩ (fun cls d _ H => E cls d H) sx)) : FnOk P w K mg base (L2.CX P w) (k + 1) f fd ps (spF ⟨K, cl, ec, fld⟩ np (defn n sx)) := by
  refine F.okX S (fun vs H Q E h => by rw [hp]; exact spF_len h) (fun cdv A outer s H vs Q E hr h => ⟨_, body cdv A outer s H E hr, body_run hn h⟩)
end
section
variable {X : Cx} {Γ : Gm} {Wx : WX} {e a b o : Expr} {es : List Expr} {ea eb eo : Ev} {eas : Evs}
theorem spF_run {np : Nat} {dws : List W} {dvs : List V} {F : List W → Sto → Res W} {μ : List Addr} {σ : L2.St} {H : Hp} {st : Sto} {ws : List W} {vs : List V} {Q : VK} (hs : Sim Γ μ st H) (hr : Reps Γ.K μ H ws vs) (hd : Reps Γ.K μ H dws dvs) (hl : (ws ++ dws).length = np)
    (h : Post Γ Wx (Rep Γ.K) μ σ H Q (F (ws ++ dws) st)) : spF Γ np F (vs ++ dvs) H Q (WE Wx σ) := by
  refine ⟨μ, st, ws ++ dws, hs, hr.append hd, hl, ?_⟩
  generalize F (ws ++ dws) st = r at h ⊢
  cases r with
  | ok w st1 => exact h
  | exc c p st1 => exact h
  | err => exact h
/-- f(..) -/
theorem qe_call {k np : Nat} {x : Str} {dws : List W} {F : List W → Sto → Res W} {p pos : Pos} (G : Fn Γ X.prog X.w X.mg X.base k x np dws F) (hK : X.K = Γ.K) (hr : Room k X.A) (tk : Takes X Wx) (hg : Gl X x) (ha : PA X (e :: es) (tA Γ Wx eas))
    (hlen : ∀ l st ws st1, eas l st = .ok ws st1 → (ws ++ dws).length = np) (hdb : (x == ("__debug__" : Str)) = false := by decide) (he : starEach (e :: es) X.env = (false, eval e X.env) :: starEach es X.env := by rfl) (hpl : (backTo pos (starEach es X.env)).any (·.1) = false := by rfl) :
    PE X (.Call (.Name x p) (e :: es) [] pos) (tE Γ Wx (eCall F dws eas)) := by
  obtain ⟨f, fd, ps, ds, dvs, F1, hm, hk, hb, hd, hdr⟩ := G.ex
  rw [← hK] at F1 hk hb
  refine PE_imp (pe_callSD F1 hr hg hm hk hb hd (fun σ => passAt tk σ) ha hdb he hpl) fun σ H Q ⟨μ, l, st, hs, hl, h⟩ => ?_
  have hh : ∀ ws st1, eas l st = .ok ws st1 → (ws ++ dws).length = np := fun ws st1 q => hlen l st ws st1 q
  unfold eCall at h
  refine ⟨μ, l, st, hs, hl, ?_⟩
  cases ee : eas l st with
  | ok ws st1 =>
    rw [ee] at h
    exact fun μ1 H1 vs e1 s1 r1 => spF_run s1 r1 (hdr μ1 H1) (hh ws st1 ee) (Post.mono (show Post Γ Wx (Rep Γ.K) μ σ H Q (F (ws ++ dws) st1) from h) e1)
  | exc c p st1 => rw [ee] at h; exact h
  | err => rw [ee] at h; exact h
/-- arguments by their number -/
def evLen (n : Nat) (a : Evs) : Prop := ∀ l st ws st1, a l st = .ok ws st1 → ws.length = n
theorem evLen_nil : evLen 0 evNil := fun l st ws st1 h => by cases h; rfl
theorem bind_ok {α β : Type} {r : Res α} {k : α → Sto → Res β} {b : β} {st : Sto} (h : r.bind k = .ok b st) : ∃ a st1, r = .ok a st1 ∧ k a st1 = .ok b st := by
  cases r with
  | ok a st1 => exact ⟨a, st1, rfl, h⟩
  | exc c p st1 => cases h
  | err => cases h
theorem evLen_cons {n : Nat} (h : evLen n eas) : evLen (n + 1) (evCons ea eas) := fun l st ws st1 q => by
  obtain ⟨x, st2, _, q⟩ := bind_ok q
  obtain ⟨xs, st3, q1, q⟩ := bind_ok q
  cases q
  have := h _ _ _ _ q1
  simpa using this
/-- f(..) with all arguments -/
theorem qe_call1 {k np : Nat} {x : Str} {dws : List W} {F : List W → Sto → Res W} {p pos : Pos} (G : Fn Γ X.prog X.w X.mg X.base k x np dws F) (hK : X.K = Γ.K) (hr : Room k X.A) (tk : Takes X Wx) (hg : Gl X x) (ha : PA X (e :: es) (tA Γ Wx eas)) (m : Nat) (hm : m + dws.length = np)
    (hlen : evLen m eas) (hdb : (x == ("__debug__" : Str)) = false := by decide) (he : starEach (e :: es) X.env = (false, eval e X.env) :: starEach es X.env := by rfl) (hpl : (backTo pos (starEach es X.env)).any (·.1) = false := by rfl) :
    PE X (.Call (.Name x p) (e :: es) [] pos) (tE Γ Wx (eCall F dws eas)) :=
  qe_call G hK hr tk hg ha (fun l st ws st1 q => by rw [List.length_append, hlen l st ws st1 q, hm]) hdb he hpl

def putW (f : Str) (v : W) : List (Str × W) → List (Str × W)
  | [] => [(f, v)]
  | (g, x) :: r => if g = f then (g, v) :: r else (g, x) :: putW f v r
theorem FRep.put {K : PySem.W.Frag} {μ : List Addr} {H : Hp} {f : Str} {w : W} {v : V} (r : Rep K μ H w v) : ∀ {fs : List (Str × W)} {gs : List (Str × V)}, FRep K μ H fs gs → FRep K μ H (putW f w fs) (putF f v gs)
  | _, _, .nil => .cons ⟨rfl, r⟩ .nil
  | (g, x) :: _, (g', y) :: _, .cons a b => by
    obtain ⟨a1, a2⟩ := a
    have a1 : g = g' := a1
    subst a1
    unfold putW putF
    by_cases h : g = f
    · rw [if_pos h, if_pos h]; exact .cons ⟨rfl, r⟩ b
    · rw [if_neg h, if_neg h]; exact .cons ⟨rfl, a2⟩ (FRep.put r b)
theorem FRep.lookup {K : PySem.W.Frag} {μ : List Addr} {H : Hp} {f : Str} {w : W} : ∀ {fs : List (Str × W)} {gs : List (Str × V)}, FRep K μ H fs gs → fs.lookup f = some w → ∃ v, gs.lookup f = some v ∧ Rep K μ H w v
  | _, _, .nil, h => by cases h
  | (g, x) :: r, (g', y) :: s, .cons a b, h => by
    obtain ⟨a1, a2⟩ := a
    have a1 : g = g' := a1
    subst a1
    rw [List.lookup_cons] at h ⊢
    by_cases q : (f == g) = true
    · simp only [q] at h ⊢; cases h; exact ⟨y, rfl, a2⟩
    · simp only [Bool.not_eq_true] at q; simp only [q] at h ⊢; exact FRep.lookup b h
theorem FRep.length {K : PySem.W.Frag} {μ : List Addr} {H : Hp} : ∀ {fs : List (Str × W)} {gs : List (Str × V)}, FRep K μ H fs gs → fs.length = gs.length
  | _, _, .nil => rfl
  | _, _, .cons _ b => congrArg (· + 1) (FRep.length b)
/-- o.f of an instance of the class c -/
def eFld (c : Nat) (f : Str) (a : Ev) : Ev := fun l st => (a l st).bind fun x st1 => match x with
  | .ref n => match st1.c[n]? with
    | some (.ins k fs) => if k = c then (match fs.lookup f with | some v => .ok v st1 | none => .err) else .err
    | _ => .err
  | _ => .err
theorem qe_fld {c : Nat} {f : Str} {pos : Pos} (hK : X.K = Γ.K) (hc : Cls Γ.K (Γ.cl c)) (hn : NoAttr Γ.K (Γ.cl c) f) (ha : PE X a (tE Γ Wx ea)) (hb : attributeBase a f X.env (eval a X.env) = eval a X.env := by rfl) : PE X (.Attribute a f pos) (tE Γ Wx (eFld c f ea)) :=
  PE_imp (pe_fld ha hb) fun σ H Q ⟨μ, l, st, hs, hl, h⟩ => tG_bind hs hl h _ fun w st1 μ1 H1 v e1 s1 r1 h1 => by
    split at h1
    · rename_i n
      split at h1
      · rename_i k fs ec
        split at h1
        · rename_i hk
          subst hk
          split at h1
          · rename_i wv ew
            cases r1 with
            | ref hm =>
              obtain ⟨dx, gs, q1, q2⟩ := s1.cell n _ _ ec hm
              obtain ⟨y, z1, z2⟩ := q2.lookup ew
              rw [hK]
              exact ⟨_, _, dx, gs, y, rfl, q1, hc, hn, z1, h1.here s1 z2⟩
          · exact h1.elim
        · exact h1.elim
      · exact h1.elim
    · exact h1.elim
/-- o.f = e -/
def sFldW (c : Nat) (f : Str) (o e : Ev) : Sx := fun l st => xs (e l st) l fun v st1 => xs (o l st1) l fun x st2 => match x with
  | .ref n => match st2.c[n]? with
    | some (.ins k fs) => if k = c ∧ fs.length < 1000 then .nx l (st2.put n (.ins k (putW f v fs)) (W.low n v)) else .err
    | _ => .err
  | _ => .err
theorem Sim.writeI {μ : List Addr} {st : Sto} {H : Hp} {n c : Nat} {fs fs' : List (Str × W)} {p dx : Addr} {gs gs' : List (Str × V)} {b : Bool} (s : Sim Γ μ st H) (hn : st.c[n]? = some (.ins c fs)) (hm : μ[n]? = some p) (hp : H p = some (.ins (Γ.cl c) dx gs))
    (hc : FRep Γ.K μ (upd H p (.ins (Γ.cl c) dx gs')) fs' gs') (hb : b = true → (Cell.ins c fs).low n = true → (Cell.ins c fs').low n = true) (hE : Ext Γ.K μ μ H (upd H p (.ins (Γ.cl c) dx gs'))) : Sim Γ μ (st.put n (.ins c fs') b) (upd H p (.ins (Γ.cl c) dx gs')) := by
  have hlt := (List.getElem?_eq_some_iff.mp hn).1
  have own : ∀ (i : Nat) d, (st.c.set n (.ins c fs'))[i]? = some d → d.own = true → ∃ d', st.c[i]? = some d' ∧ d'.own = true := fun i d h1 h2 => by
    by_cases z : n = i
    · subst z; exact ⟨_, hn, rfl⟩
    · rw [List.getElem?_set_ne z] at h1; exact ⟨d, h1, h2⟩
  refine ⟨by simp [s.len, Sto.put], fun i j a d e h1 h2 o1 o2 m1 m2 => ?_, fun i d a h1 m1 => ?_, fun i d h1 hk => ?_⟩
  · obtain ⟨d', x1, x2⟩ := own i d h1 o1
    obtain ⟨e', y1, y2⟩ := own j e h2 o2
    exact s.inj i j a d' e' x1 y1 x2 y2 m1 m2
  · by_cases z : n = i
    · subst z
      have h1 : (st.c.set n (.ins c fs'))[n]? = some d := h1
      rw [List.getElem?_set_self hlt] at h1
      cases h1
      rw [hm] at m1; cases m1
      exact ⟨dx, gs', upd_same, hc⟩
    · have h1 : (st.c.set n (.ins c fs'))[i]? = some d := h1
      rw [List.getElem?_set_ne z] at h1
      have q := s.cell i d a h1 m1
      have keep : ∀ {u : HO}, H a = some u → (d.own = true ∨ ∀ C D g, u ≠ .ins C D g) → upd H p (.ins (Γ.cl c) dx gs') a = some u := fun {u} q nl => by
        rw [upd_ne]
        · exact q
        · intro zz
          subst zz
          rcases nl with nl | nl
          · exact z (s.inj n i _ _ d hn h1 rfl nl hm m1)
          · rw [hp] at q; cases q; exact nl _ _ _ rfl
      cases d with
      | lst ws => obtain ⟨xs, h1, h2⟩ := q; exact ⟨xs, keep h1 (.inl rfl), h2.mono hE⟩
      | scr ws =>
        obtain ⟨xs, h1, h2⟩ := q
        refine ⟨xs, ?_, h2.mono hE⟩
        rcases h1 with h1 | ⟨ob, h1⟩
        · exact .inl h1
        · exact .inr ⟨ob, keep h1 (.inr fun _ _ _ z => by cases z)⟩
      | ins c fs => obtain ⟨dx, gs, h1, h2⟩ := q; exact ⟨dx, gs, keep h1 (.inl rfl), h2.mono hE⟩
  · obtain ⟨k1, k2⟩ := mark_lt hk
    have h1 : (st.c.set n (.ins c fs'))[i]? = some d := h1
    by_cases z : n = i
    · subst z
      rw [List.getElem?_set_self hlt] at h1
      cases h1
      cases b with
      | true => exact hb rfl (s.back n _ hn k1)
      | false => exact absurd (k2 rfl) (Nat.lt_irrefl _)
    · rw [List.getElem?_set_ne z] at h1
      exact s.back i d h1 k1
theorem ext_ins {K : PySem.W.Frag} {μ : List Addr} {H : Hp} {p C dx : Addr} {gs gs' : List (Str × V)} (hp : H p = some (.ins C dx gs)) : Ext K μ μ H (upd H p (.ins C dx gs')) := ⟨fun _ _ h => h, fun a xs h => by
  have ne : ∀ {u : HO}, H a = some u → (∀ C D g, u ≠ .ins C D g) → a ≠ p := fun {u} e nl z => by
    subst z
    rw [hp] at e; cases e; exact nl _ _ _ rfl
  rcases h with (h | ⟨ob, h⟩) | h
  · exact .inl (.inl (by rw [upd_ne (ne h fun _ _ _ z => by cases z)]; exact h))
  · exact .inl (.inr ⟨ob, by rw [upd_ne (ne h fun _ _ _ z => by cases z)]; exact h⟩)
  · exact .inr h⟩
theorem low_put {n : Nat} {f : Str} {v : W} (hv : W.low n v = true) : ∀ {fs : List (Str × W)}, W.lows n (fs.map (·.2)) = true → W.lows n ((putW f v fs).map (·.2)) = true
  | [], _ => by simp [putW, W.lows, hv]
  | (g, x) :: r, h => by
    simp [W.lows] at h
    unfold putW
    split
    · simp [W.lows, hv]; simpa using h.2
    · simp [W.lows, h.1]; simpa using low_put (f := f) hv (fs := r) (by simpa using h.2)
theorem qs_fld {c : Nat} {f : Str} {pos pos' : Pos} (hK : X.K = Γ.K) (hc : Cls Γ.K (Γ.cl c)) (hn : NoAttr Γ.K (Γ.cl c) f) (ho : PE X o (tE Γ Wx eo)) (he : PE X e (tE Γ Wx ea)) (hs : swapsWith e (some (.Attribute o f pos')) pos.line X.env = pure false := by rfl) :
    PS X (.Assign [.Attribute o f pos'] e pos) (tS Γ Wx (sFldW c f eo ea)) :=
  PS_imp (ps_fld ho he hs) fun D σ H ⟨μ, l, st, hs, hl, h⟩ => tG_bindS hs hl h _ fun v st1 μ1 H1 vv e1 s1 r1 h1 => tG_bindS s1 (hl.mono e1) h1 _ fun w st2 μ2 H2 wv e2 s2 r2 h2 => by
    split at h2
    · rename_i n
      split at h2
      · rename_i k fs ec
        split at h2
        · rename_i hk
          obtain ⟨hk, hlen⟩ := hk
          subst hk
          cases r2 with
          | ref hm =>
            obtain ⟨dx, gs, q1, q2⟩ := s2.cell n _ _ ec hm
            rw [hK]
            refine ⟨_, _, dx, gs, rfl, q1, hc, hn, by rw [← q2.length]; exact hlen, ?_⟩
            have E : Ext Γ.K μ2 μ2 H2 (upd H2 _ (.ins (Γ.cl k) dx (putF f vv gs))) := ext_ins q1
            exact h2 _ _ _ E (s2.writeI ec hm q1 ((q2.put (r1.mono e2)).mono E) (fun b q => low_put b q) E) (hl.mono (e1.trans (e2.trans E)))
        · exact h2.elim
      · exact h2.elim
    · exact h2.elim
/-- C(..), C a class of one's own with an __init__ -/
structure FnI (Γ : Gm) (P : Program) (w : World) (mg : Str → Option Value) (base : Heap) (k : Nat) (x : Str) (c : Nat) (np : Nat) (dws : List W) (F : List W → Sto → Res W) : Prop where
  ex : ∃ (f : Addr) (fd : FuncData) (ps : List Str) (ds : List Value) (dvs : List V), FnOk P w Γ.K mg base (L2.CX P w) k f fd ps (spF Γ np F) ∧ Mk Γ.K (Γ.cl c) f ∧ mg x = some (.ref (Γ.cl c)) ∧ L2.Binds Γ.K fd ps ds ∧ Vals dvs ds ∧ ∀ μ H, Reps Γ.K μ H dws dvs
def eMake (c : Nat) (F : List W → Sto → Res W) (dws : List W) (a : Evs) : Ev := fun l st => (a l st).bind fun ws st1 => (F (.ref st1.c.length :: (ws ++ dws)) (st1.push (.ins c []))).bind fun v st2 => match v with | .non => .ok (.ref st1.c.length) st2 | _ => .err
/-- a new instance; an exception of its __init__ is told with the slots of the frame -/
theorem make_at {CX : CXT} {k : Nat} {f C : Addr} {fd : FuncData} {ps : List Str} {sp : Sp} {dvs : List V} {ds : List Value} {E : XK} {pins : List (Addr × Obj)} {σ : L2.St} {H : Hp} {s : Shared} {Q : VK} {us : List Value} {vs : List V}
    (M : Mk X.K C f) (G : FnOk X.prog X.w X.K X.mg X.base CX k f fd ps sp) (room : Room (k + 1) X.A) (hb : L2.Binds X.K fd ps ds) (hd : Vals dvs ds) (hx : PassesAt CX X σ E) (I : L2.Inv X pins σ H s) (rv : Vals vs us)
    (hq : ∀ y dy, H y = none → H dy = none → dy ≠ y → sp (.ref y :: (vs ++ dvs)) (upd (upd H dy (.own y)) y (.ins C dy [])) (fun v H2 => v = .non ∧ Q (.ref y) H2) E) : wpAny (model X.prog X.w) X.A (call (.ref C) us) (EP X pins σ Q) X.xe s := by
  have want := hq (s.heap.objs.size + 1) s.heap.objs.size (I.hok.fresh (Nat.le_succ _)) (I.hok.fresh (Nat.le_refl _)) (Nat.ne_of_lt (Nat.lt_succ_self _))
  have J := L2.Inv.made (C := C) I
  have rr : Vals (V.ref (s.heap.objs.size + 1) :: (vs ++ dvs)) (Value.ref (s.heap.objs.size + 1) :: (us ++ ds)) := .cons rfl (rv.append hd)
  have len : (Value.ref (s.heap.objs.size + 1) :: us ++ ds).length = ps.length := by
    have q := rr.length
    rw [G.len _ _ _ _ want] at q
    exact q.symm
  have body := G.run _ X.stack _ _ ⟨Value.ref (s.heap.objs.size + 1) :: us, []⟩ (Value.ref (s.heap.objs.size + 1) :: (us ++ ds)) _ _ E (room.make C us []) (J.env0.make C us []) (hb _ (Value.ref (s.heap.objs.size + 1) :: us) J.kIn len) rr want
  refine wpAny_call (make_map (f := f) I.kIn M.makes M.init (beq_iff_eq.mp M.fn) (codeAny_mono body fun res s2 h2 => ?_))
  match res, h2 with
  | .error er, h2 => exact hx pins _ _ er s2 J h2
  | .ok (.ret u), h2 =>
    obtain ⟨v, H3, J3, r3, e3, q3⟩ := J.after h2
    cases e3
    exact ⟨r3, V.ref (s.heap.objs.size + 1), H3, J3, rfl, q3⟩
  | .ok .next, h2 => exact h2.elim
  | .ok .brk, h2 => exact h2.elim
  | .ok .cont, h2 => exact h2.elim
theorem qe_make {k np c : Nat} {x : Str} {dws : List W} {F : List W → Sto → Res W} {p pos : Pos} (G : FnI Γ X.prog X.w X.mg X.base k x c np dws F) (hK : X.K = Γ.K) (hr : Room (k + 1) X.A) (tk : Takes X Wx) (hg : Gl X x) (ha : PA X (e :: es) (tA Γ Wx eas)) (m : Nat) (hm : m + dws.length + 1 = np)
    (hlen : evLen m eas) (hdb : (x == ("__debug__" : Str)) = false := by decide) (he : starEach (e :: es) X.env = (false, eval e X.env) :: starEach es X.env := by rfl) (hpl : (backTo pos (starEach es X.env)).any (·.1) = false := by rfl) :
    PE X (.Call (.Name x p) (e :: es) [] pos) (tE Γ Wx (eMake c F dws eas)) := by
  obtain ⟨f, fd, ps, ds, dvs, F1, M, hmg, hb, hd, hdr⟩ := G.ex
  rw [← hK] at F1 M hb
  refine ⟨fun pins s σ H Q I hh => ?_⟩
  obtain ⟨μ, l, st, hs, hl, h⟩ := hh
  refine wpAny_Call_Name_kw (ld_glob I hg hmg ?_ hdb)
  have hE : tA Γ Wx eas σ H (fun vs H1 => ∀ y dy, H1 y = none → H1 dy = none → dy ≠ y → spF Γ np F (.ref y :: (vs ++ dvs)) (upd (upd H1 dy (.own y)) y (.ins (Γ.cl c) dy [])) (fun v H2 => v = .non ∧ Q (.ref y) H2) (WE Wx σ)) := by
    refine ⟨μ, l, st, hs, hl, ?_⟩
    unfold eMake at h
    cases ee : eas l st with
    | err => rw [ee] at h; exact h
    | exc c p st1 => rw [ee] at h; exact h
    | ok ws st1 =>
      rw [ee] at h
      intro μ1 H1 vs e1 s1 r1 y dy hy hdy hne
      have h1 : Post Γ Wx (Rep Γ.K) μ1 σ H1 Q ((F (.ref st1.c.length :: (ws ++ dws)) (st1.push (.ins c []))).bind fun v st2 => match v with | .non => .ok (.ref st1.c.length) st2 | _ => .err) := Post.mono h e1
      have E1 : Ext Γ.K μ1 μ1 H1 (upd H1 dy (.own y)) := ext_upd (.inl hdy)
      have n1 : upd H1 dy (.own y) y = none := by rw [upd_ne (Ne.symm hne)]; exact hy
      have E2 : Ext Γ.K μ1 (μ1 ++ [y]) (upd H1 dy (.own y)) (upd (upd H1 dy (.own y)) y (.ins (Γ.cl c) dy [])) := ext_new n1
      have S2 : Sim Γ (μ1 ++ [y]) (st1.push (.ins c [])) (upd (upd H1 dy (.own y)) y (.ins (Γ.cl c) dy [])) := (s1.other hdy).new n1 ⟨dy, [], upd_same, .nil⟩ rfl
      have E3 := E1.trans E2
      refine ⟨μ1 ++ [y], _, .ref st1.c.length :: (ws ++ dws), S2, .cons (.ref (by rw [← s1.len]; simp)) ((r1.mono E3).append (hdr _ _)), ?_, ?_⟩
      · rw [List.length_cons, List.length_append, hlen l st ws st1 ee, hm]
      · have h2 := Post.mono h1 E3
        generalize F (.ref st1.c.length :: (ws ++ dws)) (st1.push (.ins c [])) = r at h2 ⊢
        cases r with
        | err => exact h2
        | exc c p st2 => exact h2
        | ok w st2 =>
          intro μ4 H4 v e4 s4 r4
          cases w with
          | non =>
            cases r4
            exact ⟨rfl, h2 μ4 H4 _ e4 s4 (.ref (e4.pre _ _ (by rw [← s1.len]; simp)))⟩
          | _ => exact h2.elim
  refine PySem.W.callWith_K (h₀ := X.base) I.ok.mod.kin M.kp (thn (ha.run pos pins s σ H _ I hE) fun us s1 ⟨vs, H1, I1, r, q⟩ => ⟨I1.kIn, ?_⟩) he hpl
  exact make_at M F1 hr hb hd (passAt tk σ) I1 r q
end
end RB

set_option Elab.async false
set_option linter.all false
set_option maxRecDepth 100000
set_option maxHeartbeats 4000000
namespace RB
open PySem PySem.Spec PyProof.Rows L2

mutual
def W.dat : Nat → W → Option PyData
  | _, .non => some .none
  | _, .bl b => some (.bool b)
  | _, .int i => some (.int i)
  | _, .str x => if PyData.strOk x = true then some (.str x) else none
  | n + 1, .tup ws => (W.dats n ws).map .tuple
  | 0, .tup _ => none
  | _, .ref _ => none
def W.dats : Nat → List W → Option (List PyData)
  | _, [] => some []
  | n, w :: ws => match W.dat n w, W.dats n ws with
    | some d, some ds => some (d :: ds)
    | _, _ => none
end
def datOf (st : Sto) : W → Option PyData
  | .ref n => match getL st n with | some ws => (W.dats 8 ws).map .list | none => none
  | w => W.dat 9 w
section
variable {K : PySem.W.Frag} {μ : List Addr} {H : Hp}
mutual
theorem dat_rep {v : V} {d : PyData} : ∀ {n : Nat} {w : W}, W.dat n w = some d → Rep K μ H w v → Dp K H v d ∧ d.canLay0 = true ∧ d.depth ≤ n
  | n, .non, h, .non => by cases n <;> (simp only [W.dat] at h; cases h; exact ⟨.non, rfl, Nat.zero_le _⟩)
  | n, .bl b, h, .bl _ => by cases n <;> (simp only [W.dat] at h; cases h; exact ⟨.bl b, rfl, Nat.zero_le _⟩)
  | n, .int b, h, .int _ => by cases n <;> (simp only [W.dat] at h; cases h; exact ⟨.int b, rfl, Nat.zero_le _⟩)
  | n, .str b, h, .str _ => by
    have h : (if PyData.strOk b = true then some (PyData.str b) else none) = some d := by cases n <;> simpa only [W.dat] using h
    split at h
    · rename_i q
      cases h
      exact ⟨.str b, q, Nat.zero_le _⟩
    · cases h
  | 0, .tup ws, h, _ => by simp [W.dat] at h
  | n + 1, .tup ws, h, .tup a b => by
    simp only [W.dat] at h
    cases e : W.dats n ws with
    | none => rw [e] at h; cases h
    | some ds =>
      rw [e] at h
      cases h
      obtain ⟨h1, h2, h3⟩ := dats_rep e b
      exact ⟨.tup a h1, by simpa [PyData.canLay0] using h2, by simp only [PyData.depth]; omega⟩
  | 0, .ref k, h, _ => by simp [W.dat] at h
  | n + 1, .ref k, h, _ => by simp [W.dat] at h
theorem dats_rep : ∀ {n : Nat} {ws : List W} {vs : List V} {ds : List PyData}, W.dats n ws = some ds → Reps K μ H ws vs → DpAll K H vs ds ∧ PyData.canLayAll0 ds = true ∧ PyData.depthAll ds ≤ n
  | n, [], _, ds, h, .nil => by cases n <;> (simp only [W.dats] at h; cases h; exact ⟨.nil, rfl, Nat.zero_le _⟩)
  | n, w :: ws, _, ds, h, .cons a b => by
    have h : (match W.dat n w, W.dats n ws with | some d, some ds => some (d :: ds) | _, _ => none) = some ds := by cases n <;> simpa only [W.dats] using h
    cases e1 : W.dat n w with
    | none => rw [e1] at h; cases h
    | some d =>
      cases e2 : W.dats n ws with
      | none => rw [e1, e2] at h; cases h
      | some es =>
        rw [e1, e2] at h
        cases h
        obtain ⟨x1, x2, x3⟩ := dat_rep e1 a
        obtain ⟨y1, y2, y3⟩ := dats_rep e2 b
        refine ⟨.cons x1 y1, by simp [PyData.canLayAll0, x2, y2], ?_⟩
        simp only [PyData.depthAll]
        omega
end
theorem shaped_of {d : PyData} {n : Nat} (h : d.canLay0 = true) (h2 : d.depth ≤ n) (hn : n ≤ 64) : SeqAt.shaped d = true := by
  unfold SeqAt.shaped
  rw [h, decide_eq_true (by omega)]
  rfl
theorem datOf_rep {Γ : Gm} {st : Sto} {w : W} {v : V} {d : PyData} (hs : Sim Γ μ st H) (h : datOf st w = some d) (r : Rep Γ.K μ H w v) : Dp Γ.K H v d ∧ SeqAt.shaped d = true := by
  have key : ∀ {w : W} {v : V}, W.dat 9 w = some d → Rep Γ.K μ H w v → Dp Γ.K H v d ∧ SeqAt.shaped d = true := fun {w v} h r => by
    obtain ⟨h1, h2, h3⟩ := dat_rep h r
    exact ⟨h1, shaped_of h2 h3 (by decide)⟩
  cases w with
  | ref n =>
    simp only [datOf] at h
    cases e : getL st n with
    | none => rw [e] at h; cases h
    | some ws =>
      rw [e] at h
      cases e2 : W.dats 8 ws with
      | none => simp only [e2] at h; cases h
      | some ds =>
        simp only [e2] at h
        cases h
        obtain ⟨a, xs, rfl, h1, h2⟩ := getL_rep hs e r
        obtain ⟨x1, x2, x3⟩ := dats_rep e2 h2
        refine ⟨.lst h1 x1, shaped_of (n := 9) (by simpa [PyData.canLay0] using x2) (by simp only [PyData.depth]; omega) (by decide)⟩
  | non => exact key h r
  | bl b => exact key h r
  | int b => exact key h r
  | str b => exact key h r
  | tup ws => exact key h r
end

def wEq (x y : W) (st : Sto) : Res W := match datOf st x, datOf st y with | some d, some e => .ok (.bl (PyData.eqv d e)) st | _, _ => .err
def wNe (x y : W) (st : Sto) : Res W := match datOf st x, datOf st y with | some d, some e => .ok (.bl (!PyData.eqv d e)) st | _, _ => .err
def seqOf (st : Sto) : W → Option (List W)
  | .tup ws => some ws
  | .ref n => getL st n
  | _ => none
def wIn (x y : W) (st : Sto) : Res W := match datOf st x, (seqOf st y).bind (W.dats 8) with | some d, some es => .ok (.bl (es.any fun z => PyData.eqv z d)) st | _, _ => .err
def wNotIn (x y : W) (st : Sto) : Res W := match datOf st x, (seqOf st y).bind (W.dats 8) with | some d, some es => .ok (.bl (!es.any fun z => PyData.eqv z d)) st | _, _ => .err
def wIsN (x y : W) (st : Sto) : Res W := match y with | .non => .ok (.bl (match x with | .non => true | _ => false)) st | _ => .err
def wNotN (x y : W) (st : Sto) : Res W := match y with | .non => .ok (.bl (match x with | .non => false | _ => true)) st | _ => .err
def wAdd (x y : W) (st : Sto) : Res W := match x, y with
  | .int a, .int b => .ok (.int (a + b)) st
  | .tup a, .tup b => if a.length + b.length ≤ 1000000 then .ok (.tup (a ++ b)) st else .err
  | .str a, .str b => if a.length + b.length ≤ 1000000 then .ok (.str (a ++ b)) st else .err
  | .ref m, .ref n => match st.c[m]?, st.c[n]? with
    | some (.lst a), some (.lst b) => if a.length + b.length ≤ 1000000 then .ok (.ref st.c.length) (st.push (.lst (a ++ b))) else .err
    | _, _ => .err
  | _, _ => .err
def wSub (x y : W) (st : Sto) : Res W := match x, y with | .int a, .int b => .ok (.int (a - b)) st | _, _ => .err
def mulOk (a b : Int) : Bool := decide (a.natAbs.log2 + b.natAbs.log2 < 100000000)
theorem mulOk_ok {a b : Int} (h : mulOk a b = true) : CMulX a b := by
  have h2 : a.natAbs.log2 + b.natAbs.log2 < 100000000 := of_decide_eq_true h
  have e : ∀ x : Int, Builtin.Int.intBits x ≤ x.natAbs.log2 + 1 := fun x => by
    unfold Builtin.Int.intBits
    split
    · exact Nat.zero_le _
    · exact Nat.le_refl _
  have := e a
  have := e b
  unfold CMulX
  omega
def wMulI (x y : W) (st : Sto) : Res W := match x, y with | .int a, .int b => if mulOk a b = true then .ok (.int (a * b)) st else .err | _, _ => .err
def divOk (b : Int) : Bool := decide (0 < b) && decide (b.natAbs.log2 < 9000)
def wDiv (x y : W) (st : Sto) : Res W := match x, y with | .int a, .int b => if divOk b = true then .ok (.int (a / b)) st else .err | _, _ => .err
def wMod (x y : W) (st : Sto) : Res W := match x, y with | .int a, .int b => if 0 < b then .ok (.int (a % b)) st else .err | _, _ => .err
def wLt (x y : W) (st : Sto) : Res W := match x, y with | .int a, .int b => .ok (.bl (decide (a < b))) st | _, _ => .err
def wLe (x y : W) (st : Sto) : Res W := match x, y with | .int a, .int b => .ok (.bl (decide (a ≤ b))) st | _, _ => .err
def wGt (x y : W) (st : Sto) : Res W := match x, y with | .int a, .int b => .ok (.bl (decide (b < a))) st | _, _ => .err
def wGe (x y : W) (st : Sto) : Res W := match x, y with | .int a, .int b => .ok (.bl (decide (b ≤ a))) st | _, _ => .err
section
variable {X : Cx} {Γ : Gm} {Wx : WX}
theorem ok_eq (hK : X.K = Γ.K) : OpOk Γ (rEqD X.K) wEq := fun Wx μ σ H st wx wy x y Q hs rx ry h => by
  unfold wEq at h
  split at h
  · rename_i d e h1 h2
    rw [hK]
    obtain ⟨a1, a2⟩ := datOf_rep hs h1 rx
    obtain ⟨b1, b2⟩ := datOf_rep hs h2 ry
    exact ⟨d, e, a1, b1, a2, b2, h.here hs (.bl _)⟩
  · exact h.elim
theorem ok_ne (hK : X.K = Γ.K) : OpOk Γ (rNeD X.K) wNe := fun Wx μ σ H st wx wy x y Q hs rx ry h => by
  unfold wNe at h
  split at h
  · rename_i d e h1 h2
    rw [hK]
    obtain ⟨a1, a2⟩ := datOf_rep hs h1 rx
    obtain ⟨b1, b2⟩ := datOf_rep hs h2 ry
    exact ⟨d, e, a1, b1, a2, b2, h.here hs (.bl _)⟩
  · exact h.elim
/-- in, in a tuple or a list of plain data -/
def rInQ (K : PySem.W.Frag) (neg : Bool) : R2 := fun x y H Q => ∃ d ds, Dp K H x d ∧ (Dp K H y (.list ds) ∨ Dp K H y (.tuple ds)) ∧ SeqAt.shaped d = true ∧ SeqAt.shaped (.list ds) = true ∧ Q (.bl (if neg = true then !(ds.any fun z => PyData.eqv z d) else ds.any fun z => PyData.eqv z d)) H
theorem op_inQ (hu : X.A.units + 65 < cLine) : OpR X (compareOp .In) (rInQ X.K false) := by
  intro ps st σ H x y v u Q I rx ry want
  obtain ⟨d, ds, hd, he, sd, se, q⟩ := want
  have cl : PyData.canLayAll0 ds = true := SeqAt.canLay_of_shaped se
  obtain ⟨as, r1⟩ := Dp.reads I d x v hd rx
  rcases he with he | he
  · obtain ⟨bs, r2⟩ := Dp.reads I (.list ds) y u he ry
    exact SeqAt.in_list_reads r2 r1 cl (SeqAt.canLay_of_shaped sd) (room_in_shaped sd hu) ⟨.bl _, H, I, rfl, q⟩
  · obtain ⟨bs, r2⟩ := Dp.reads I (.tuple ds) y u he ry
    exact SeqAt.in_tuple_reads r2 r1 cl (SeqAt.canLay_of_shaped sd) (room_in_shaped sd hu) ⟨.bl _, H, I, rfl, q⟩
theorem op_notInQ (hu : X.A.units + 65 < cLine) : OpR X (compareOp .NotIn) (rInQ X.K true) := by
  intro ps st σ H x y v u Q I rx ry want
  obtain ⟨d, ds, hd, he, sd, se, q⟩ := want
  have cl : PyData.canLayAll0 ds = true := SeqAt.canLay_of_shaped se
  obtain ⟨as, r1⟩ := Dp.reads I d x v hd rx
  rcases he with he | he
  · obtain ⟨bs, r2⟩ := Dp.reads I (.list ds) y u he ry
    exact SeqAt.notIn_list_reads r2 r1 cl (SeqAt.canLay_of_shaped sd) (room_in_shaped sd hu) ⟨.bl _, H, I, rfl, q⟩
  · obtain ⟨bs, r2⟩ := Dp.reads I (.tuple ds) y u he ry
    exact SeqAt.notIn_tuple_reads r2 r1 cl (SeqAt.canLay_of_shaped sd) (room_in_shaped sd hu) ⟨.bl _, H, I, rfl, q⟩
theorem seqOf_rep {μ : List Addr} {H : Hp} {st : Sto} {w : W} {v : V} {ws : List W} (hs : Sim Γ μ st H) (h : seqOf st w = some ws) (r : Rep Γ.K μ H w v) : ∃ a xs, v = .ref a ∧ (SqL Γ.K H a xs ∨ SqT Γ.K H a xs) ∧ Reps Γ.K μ H ws xs := by
  cases w with
  | tup ws' => cases h; cases r with | tup a b => exact ⟨_, _, rfl, .inr a, b⟩
  | ref n => obtain ⟨a, xs, e, h1, h2⟩ := getL_rep hs h r; exact ⟨a, xs, e, .inl h1, h2⟩
  | _ => cases h
theorem inQ_rep {μ : List Addr} {H : Hp} {st : Sto} {w : W} {v : V} {es : List PyData} (hs : Sim Γ μ st H) (h : (seqOf st w).bind (W.dats 8) = some es) (r : Rep Γ.K μ H w v) : (Dp Γ.K H v (.list es) ∨ Dp Γ.K H v (.tuple es)) ∧ SeqAt.shaped (.list es) = true := by
  cases e : seqOf st w with
  | none => rw [e] at h; cases h
  | some ws =>
    rw [e] at h
    obtain ⟨a, xs, rfl, h1, h2⟩ := seqOf_rep hs e r
    obtain ⟨x1, x2, x3⟩ := dats_rep (n := 8) h h2
    refine ⟨?_, shaped_of (n := 9) (by simpa [PyData.canLay0] using x2) (by simp only [PyData.depth]; omega) (by decide)⟩
    rcases h1 with h1 | h1
    · exact .inl (.lst h1 x1)
    · exact .inr (.tup h1 x1)
theorem ok_in (hK : X.K = Γ.K) : OpOk Γ (rInQ X.K false) wIn := fun Wx μ σ H st wx wy x y Q hs rx ry h => by
  unfold wIn at h
  split at h
  · rename_i d e h1 h2
    rw [hK]
    obtain ⟨a1, a2⟩ := datOf_rep hs h1 rx
    obtain ⟨b1, b2⟩ := inQ_rep hs h2 ry
    exact ⟨d, e, a1, b1, a2, b2, h.here hs (.bl _)⟩
  · exact h.elim
theorem ok_notIn (hK : X.K = Γ.K) : OpOk Γ (rInQ X.K true) wNotIn := fun Wx μ σ H st wx wy x y Q hs rx ry h => by
  unfold wNotIn at h
  split at h
  · rename_i d e h1 h2
    rw [hK]
    obtain ⟨a1, a2⟩ := datOf_rep hs h1 rx
    obtain ⟨b1, b2⟩ := inQ_rep hs h2 ry
    exact ⟨d, e, a1, b1, a2, b2, h.here hs (.bl _)⟩
  · exact h.elim
theorem ok_isN : OpOk Γ (fun x y H Q => y = .non ∧ Q (.bl (decide (x = .non))) H) wIsN := fun Wx μ σ H st wx wy x y Q hs rx ry h => by
  unfold wIsN at h
  split at h
  · cases ry
    refine ⟨rfl, ?_⟩
    have q := h.here hs (.bl _)
    cases rx <;> exact q
  · exact h.elim
theorem ok_notN : OpOk Γ (fun x y H Q => y = .non ∧ Q (.bl (!decide (x = .non))) H) wNotN := fun Wx μ σ H st wx wy x y Q hs rx ry h => by
  unfold wNotN at h
  split at h
  · cases ry
    refine ⟨rfl, ?_⟩
    have q := h.here hs (.bl _)
    cases rx <;> exact q
  · exact h.elim
theorem ok_int {g : Int → Int → V} {C : Int → Int → Prop} {op : W → W → Sto → Res W} {f : Int → Int → W} (hf : ∀ i j K μ H, Rep K μ H (f i j) (g i j)) (h1 : ∀ i j st, (op (.int i) (.int j) st = .ok (f i j) st ∧ C i j) ∨ op (.int i) (.int j) st = .err)
    (h2 : ∀ x y st, (∃ i j, x = .int i ∧ y = .int j) ∨ op x y st = .err) : OpOk Γ (rI C g) op := fun Wx μ σ H st wx wy x y Q hs rx ry h => by
  rcases h2 wx wy st with ⟨i, j, rfl, rfl⟩ | e
  · rcases h1 i j st with ⟨e, c⟩ | e
    · rw [e] at h
      cases rx
      cases ry
      exact ⟨i, j, rfl, rfl, c, h.here hs (hf i j _ _ _)⟩
    · rw [e] at h; exact h.elim
  · rw [e] at h; exact h.elim
theorem ok_int0 {g : Int → Int → V} {op : W → W → Sto → Res W} {f : Int → Int → W} (hf : ∀ i j K μ H, Rep K μ H (f i j) (g i j)) (h1 : ∀ i j st, op (.int i) (.int j) st = .ok (f i j) st) (h2 : ∀ x y st, (∃ i j, x = .int i ∧ y = .int j) ∨ op x y st = .err) : OpOk Γ (rI0 g) op :=
  fun Wx μ σ H st wx wy x y Q hs rx ry h => by
  rcases h2 wx wy st with ⟨i, j, rfl, rfl⟩ | e
  · rw [h1 i j st] at h
    cases rx
    cases ry
    exact ⟨i, j, rfl, rfl, h.here hs (hf i j _ _ _)⟩
  · rw [e] at h; exact h.elim
local macro_rules | `(tactic| trivial) => `(tactic| (intro x y st; cases x <;> cases y <;> first | exact .inr rfl | exact .inl ⟨_, _, rfl, rfl⟩))
theorem ok_sub : OpOk Γ (rI0 fun i j => .int (i - j)) wSub := ok_int0 (fun _ _ _ _ _ => .int _) (fun _ _ _ => rfl) (by trivial)
theorem ok_lt : OpOk Γ (rI0 fun i j => .bl (decide (i < j))) wLt := ok_int0 (fun _ _ _ _ _ => .bl _) (fun _ _ _ => rfl) (by trivial)
theorem ok_le : OpOk Γ (rI0 fun i j => .bl (decide (i ≤ j))) wLe := ok_int0 (fun _ _ _ _ _ => .bl _) (fun _ _ _ => rfl) (by trivial)
theorem ok_gt : OpOk Γ (rI0 fun i j => .bl (decide (j < i))) wGt := ok_int0 (fun _ _ _ _ _ => .bl _) (fun _ _ _ => rfl) (by trivial)
theorem ok_ge : OpOk Γ (rI0 fun i j => .bl (decide (j ≤ i))) wGe := ok_int0 (fun _ _ _ _ _ => .bl _) (fun _ _ _ => rfl) (by trivial)
theorem ok_mulI : OpOk Γ (rI CMulX fun i j => .int (i * j)) wMulI := ok_int (fun _ _ _ _ _ => .int _) (fun i j st => by
  by_cases h : mulOk i j = true
  · exact .inl ⟨if_pos h, mulOk_ok h⟩
  · exact .inr (if_neg h)) (by trivial)
theorem ok_div : OpOk Γ (rI CDivW fun i j => .int (i / j)) wDiv := ok_int (fun _ _ _ _ _ => .int _) (fun i j st => by
  by_cases h : divOk j = true
  · refine .inl ⟨if_pos h, ?_⟩
    unfold divOk at h
    rw [Bool.and_eq_true] at h
    exact ⟨of_decide_eq_true h.1, of_decide_eq_true h.2⟩
  · exact .inr (if_neg h)) (by trivial)
theorem ok_mod : OpOk Γ (rI (fun _ j => 0 < j) fun i j => .int (i % j)) wMod := ok_int (fun _ _ _ _ _ => .int _) (fun i j st => by
  by_cases h : 0 < j
  · exact .inl ⟨if_pos h, h⟩
  · exact .inr (if_neg h)) (by trivial)
theorem le_line {n : Nat} (h : n ≤ 1000000) : n ≤ sizeLine := by rw [sizeLine_eq]; omega
abbrev rAddQ (K : PySem.W.Frag) : R2 := fun x y H Q => (rI0 (fun i j => .int (i + j)) x y H Q) ∨ (rCatA K x y H Q) ∨ ((∃ i j, x = .str i ∧ y = .str j ∧ i.length + j.length ≤ sizeLine ∧ Q (.str (i ++ j)) H) ∨ rCat x y H Q)
theorem op_addQ : OpR X (binaryOp .Add) (rAddQ X.K) := .or op_add (.or op_catA (.or op_add_str op_cat))
theorem ok_add (hK : X.K = Γ.K) : OpOk Γ (rAddQ X.K) wAdd := fun Wx μ σ H st wx wy x y Q hs rx ry h => by
  rw [hK]
  cases wx with
  | int a =>
    cases wy with
    | int b => cases rx; cases ry; exact .inl ⟨a, b, rfl, rfl, h.here hs (.int _)⟩
    | _ => exact h.elim
  | tup a =>
    cases wy with
    | tup b =>
      simp only [wAdd] at h
      split at h
      · rename_i hlen
        cases rx with
        | tup q1 q2 =>
          cases ry with
          | tup p1 p2 =>
            rename_i aa xs bb ys
            refine .inr (.inl ⟨_, _, _, _, rfl, rfl, q1, p1, by rw [← q2.length, ← p2.length]; exact le_line hlen, fun e => ?_, fun _ e => ?_, fun _ _ p hp => ?_⟩)
            · subst e
              cases q2
              exact h.here hs (.tup p1 (by simpa using p2))
            · subst e
              cases p2
              exact h.here hs (.tup q1 (by simpa using q2))
            · have E : Ext Γ.K μ μ H (upd H p (.tup (xs ++ ys))) := ext_upd (.inl hp)
              exact h _ _ _ E (hs.other hp) (.tup (.inl (.inl upd_same)) ((q2.append p2).mono E))
      · exact h.elim
    | _ => exact h.elim
  | str a =>
    cases wy with
    | str b =>
      simp only [wAdd] at h
      split at h
      · rename_i hlen
        cases rx; cases ry
        exact .inr (.inr (.inl ⟨a, b, rfl, rfl, le_line hlen, h.here hs (.str _)⟩))
      · exact h.elim
    | _ => exact h.elim
  | ref m =>
    cases wy with
    | ref n =>
      simp only [wAdd] at h
      split at h
      · rename_i a b e1 e2
        split at h
        · rename_i hlen
          cases rx with
          | ref hm =>
            cases ry with
            | ref hn =>
              obtain ⟨xs, q1, q2⟩ := hs.cell m _ _ e1 hm
              obtain ⟨ys, p1, p2⟩ := hs.cell n _ _ e2 hn
              refine .inr (.inr (.inr ⟨_, _, xs, ys, rfl, rfl, q1, p1, by rw [← q2.length, ← p2.length]; exact le_line hlen, fun p hp => ?_⟩))
              have E : Ext Γ.K μ (μ ++ [p]) H (upd H p (.lst (xs ++ ys))) := ext_new hp
              have r := q2.append p2
              exact h _ _ _ E (hs.new hp ⟨_, upd_same, r.mono E⟩ (r.low (Nat.le_of_eq hs.len))) (.ref (by rw [← hs.len]; simp))
        · exact h.elim
      · exact h.elim
    | _ => exact h.elim
  | _ => exact h.elim

def wIx (x y : W) (st : Sto) : Res W := match y with
  | .int i => match seqOf st x with
    | some ws => match atI ws i with | some w => .ok w st | none => .err
    | none => .err
  | _ => .err
theorem atI_rep {μ : List Addr} {H : Hp} {K : PySem.W.Frag} {ws : List W} {xs : List V} {i : Int} {w : W} (r : Reps K μ H ws xs) (h : atI ws i = some w) : ∃ v, atI xs i = some v ∧ Rep K μ H w v := by
  unfold atI at h ⊢
  rw [← r.length]
  cases e : ixN ws.length i with
  | none => rw [e] at h; cases h
  | some j => rw [e] at h; exact r.get h
theorem ok_ix (hK : X.K = Γ.K) : OpOk Γ (rIx X.K) wIx := fun Wx μ σ H st wx wy x y Q hs rx ry h => by
  rw [hK]
  unfold wIx at h
  split at h
  · split at h
    · rename_i i _ ws e
      split at h
      · rename_i w ew
        cases ry
        obtain ⟨a, xs, rfl, h1, h2⟩ := seqOf_rep hs e rx
        obtain ⟨v, z1, z2⟩ := atI_rep h2 ew
        rcases h1 with h1 | h1
        · exact .inl ⟨a, xs, i, v, rfl, rfl, h1, z1, h.here hs z2⟩
        · exact .inr (.inl ⟨a, xs, i, v, rfl, rfl, h1, z1, h.here hs z2⟩)
      · exact h.elim
    · exact h.elim
  · exact h.elim
theorem qe_ix {a b : Expr} {ea eb : Ev} {pos : Pos} (hK : X.K = Γ.K) (ha : PE X a (tE Γ Wx ea)) (hb : PE X b (tE Γ Wx eb)) (hs : PlainIx b := by exact fun _ _ => rfl) : PE X (.Subscript a b pos) (tE Γ Wx (eBin wIx ea eb)) :=
  PE_imp (pe_ix ix_seq ha hb hs) fun σ H Q h => tOp_run (ok_ix hK) σ H Q h
end
end RB

set_option Elab.async false
set_option linter.all false
set_option maxRecDepth 100000
set_option maxHeartbeats 4000000
namespace RB
open PySem PySem.Spec PyProof.Rows L2

def fLen (ws : List W) (st : Sto) : Res W := match ws with
  | [.str z] => if z.length ≤ 1000000 then .ok (.int (z.length : Nat)) st else .err
  | [w] => match seqOf st w with | some xs => .ok (.int (xs.length : Nat)) st | none => .err
  | _ => .err
def fInt (ws : List W) (st : Sto) : Res W := match ws with | [.int i] => .ok (.int i) st | [.bl b] => .ok (.int (if b then 1 else 0)) st | _ => .err
def bools : List W → Option (List Bool)
  | [] => some []
  | .bl b :: r => (bools r).map (b :: ·)
  | _ :: _ => none
def intsOf : List W → Option (List Int)
  | [] => some []
  | .int b :: r => (intsOf r).map (b :: ·)
  | _ :: _ => none
def fAll (ws : List W) (st : Sto) : Res W := match ws with | [.ref n] => (match (getL st n).bind bools with | some bs => .ok (.bl (bs.all id)) st | none => .err) | _ => .err
def fAny (ws : List W) (st : Sto) : Res W := match ws with | [.ref n] => (match (getL st n).bind bools with | some bs => .ok (.bl (bs.any id)) st | none => .err) | _ => .err
def fSumL (ws : List W) (st : Sto) : Res W := match ws with | [.ref n] => (match (getL st n).bind intsOf with | some bs => .ok (.int bs.sum) st | none => .err) | _ => .err
def fMin2 (ws : List W) (st : Sto) : Res W := match ws with | [.int i, .int j] => .ok (.int (if j < i then j else i)) st | _ => .err
def fMax2 (ws : List W) (st : Sto) : Res W := match ws with | [.int i, .int j] => .ok (.int (if j > i then j else i)) st | _ => .err
def fTuple (ws : List W) (st : Sto) : Res W := match ws with | [w] => (match seqOf st w with | some xs => .ok (.tup xs) st | none => .err) | _ => .err
def fList (ws : List W) (st : Sto) : Res W := match ws with | [w] => (match seqOf st w with | some xs => .ok (.ref st.c.length) (st.push (.lst xs)) | none => .err) | _ => .err
def fGcd (ws : List W) (st : Sto) : Res W := match ws with | [.int i, .int j] => .ok (.int ((Nat.gcd i.natAbs j.natAbs : Nat) : Int)) st | _ => .err
def insI (x : Int) : List Int → List Int
  | [] => [x]
  | y :: r => if x ≤ y then x :: y :: r else y :: insI x r
def sortI : List Int → List Int
  | [] => []
  | x :: r => insI x (sortI r)
def fSortI (ws : List W) (st : Sto) : Res W := match ws with | [.ref n] => (match (getL st n).bind intsOf with | some ns => .ok (.ref st.c.length) (st.push (.lst ((sortI ns).map .int))) | none => .err) | _ => .err

section
variable {X : Cx} {Γ : Gm} {Wx : WX}
theorem bools_rep {K : PySem.W.Frag} {μ : List Addr} {H : Hp} : ∀ {ws : List W} {xs : List V} {bs : List Bool}, bools ws = some bs → Reps K μ H ws xs → xs = bs.map V.bl
  | [], _, bs, h, .nil => by cases h; rfl
  | .bl b :: r, _, bs, h, .cons a t => by
    simp only [bools] at h
    cases e : bools r with
    | none => rw [e] at h; cases h
    | some cs => rw [e] at h; cases h; cases a; rw [bools_rep e t]; rfl
  | .non :: _, _, _, h, _ => by cases h
  | .int _ :: _, _, _, h, _ => by cases h
  | .str _ :: _, _, _, h, _ => by cases h
  | .tup _ :: _, _, _, h, _ => by cases h
  | .ref _ :: _, _, _, h, _ => by cases h
theorem ints_rep {K : PySem.W.Frag} {μ : List Addr} {H : Hp} : ∀ {ws : List W} {xs : List V} {bs : List Int}, intsOf ws = some bs → Reps K μ H ws xs → xs = bs.map V.int
  | [], _, bs, h, .nil => by cases h; rfl
  | .int b :: r, _, bs, h, .cons a t => by
    simp only [intsOf] at h
    cases e : intsOf r with
    | none => rw [e] at h; cases h
    | some cs => rw [e] at h; cases h; cases a; rw [ints_rep e t]; rfl
  | .non :: _, _, _, h, _ => by cases h
  | .bl _ :: _, _, _, h, _ => by cases h
  | .str _ :: _, _, _, h, _ => by cases h
  | .tup _ :: _, _, _, h, _ => by cases h
  | .ref _ :: _, _, _, h, _ => by cases h
theorem ok_len (hK : X.K = Γ.K) : CallOk Γ (fun xs H Q => ∃ x n, xs = [x] ∧ LenV X.K x H n ∧ Q (.int n) H) fLen := fun Wx μ σ H st ws xs Q hs hr h => by
  rw [hK]
  cases hr with
  | nil => exact h.elim
  | @cons w v ws vs r t =>
    cases t with
    | cons _ _ => cases w <;> exact h.elim
    | nil =>
      have other : ∀ ys, seqOf st w = some ys → Post Γ Wx (Rep Γ.K) μ σ H Q (.ok (.int (ys.length : Nat)) st) → ∃ x n, [v] = [x] ∧ LenV Γ.K x H n ∧ Q (.int n) H := fun ys e h => by
        obtain ⟨a, zs, rfl, h1, h2⟩ := seqOf_rep hs e r
        refine ⟨_, ys.length, rfl, ?_, h.here hs (.int _)⟩
        rcases h1 with h1 | h1
        · exact .inl ⟨zs, h1, h2.length⟩
        · exact .inr ⟨zs, h1, h2.length⟩
      cases w with
      | str z =>
        simp only [fLen] at h
        split at h
        · rename_i hz
          cases r
          exact ⟨_, z.length, rfl, ⟨le_line hz, rfl⟩, h.here hs (.int _)⟩
        · exact h.elim
      | tup ys => exact other ys rfl h
      | ref n =>
        simp only [fLen] at h
        cases e : seqOf st (.ref n) with
        | none => rw [e] at h; exact h.elim
        | some ys => rw [e] at h; exact other ys e h
      | _ => exact h.elim
theorem ok_fint : CallOk Γ (fun xs H Q => (∃ i, xs = [.int i] ∧ Q (.int i) H) ∨ ∃ k, xs = [.bl k] ∧ Q (.int (if k then 1 else 0)) H) fInt := fun Wx μ σ H st ws xs Q hs hr h => by
  unfold fInt at h
  split at h
  · cases hr with
    | cons r t => cases r; cases t; exact .inl ⟨_, rfl, h.here hs (.int _)⟩
  · cases hr with
    | cons r t => cases r; cases t; exact .inr ⟨_, rfl, h.here hs (.int _)⟩
  · exact h.elim
theorem ok_all (hK : X.K = Γ.K) : CallOk Γ (rAll X.K) fAll := fun Wx μ σ H st ws xs Q hs hr h => by
  rw [hK]
  unfold fAll at h
  split at h
  · rename_i n
    split at h
    · rename_i bs e
      cases hr with
      | cons r t =>
        cases t
        cases e1 : getL st n with
        | none => rw [e1] at e; cases e
        | some ws =>
          rw [e1] at e
          obtain ⟨a, zs, rfl, h1, h2⟩ := getL_rep hs e1 r
          have q := bools_rep e h2
          subst q
          exact ⟨a, bs, rfl, h1, h.here hs (.bl _)⟩
    · exact h.elim
  · exact h.elim
theorem ok_any (hK : X.K = Γ.K) : CallOk Γ (rAny X.K) fAny := fun Wx μ σ H st ws xs Q hs hr h => by
  rw [hK]
  unfold fAny at h
  split at h
  · rename_i n
    split at h
    · rename_i bs e
      cases hr with
      | cons r t =>
        cases t
        cases e1 : getL st n with
        | none => rw [e1] at e; cases e
        | some ws =>
          rw [e1] at e
          obtain ⟨a, zs, rfl, h1, h2⟩ := getL_rep hs e1 r
          have q := bools_rep e h2
          subst q
          exact ⟨a, bs, rfl, h1, h.here hs (.bl _)⟩
    · exact h.elim
  · exact h.elim
theorem ok_sumL (hK : X.K = Γ.K) : CallOk Γ (rSum X.K) fSumL := fun Wx μ σ H st ws xs Q hs hr h => by
  rw [hK]
  unfold fSumL at h
  split at h
  · rename_i n
    split at h
    · rename_i bs e
      cases hr with
      | cons r t =>
        cases t
        cases e1 : getL st n with
        | none => rw [e1] at e; cases e
        | some ws =>
          rw [e1] at e
          obtain ⟨a, zs, rfl, h1, h2⟩ := getL_rep hs e1 r
          have q := ints_rep e h2
          subst q
          exact ⟨a, bs, rfl, h1, h.here hs (.int _)⟩
    · exact h.elim
  · exact h.elim
theorem ok_min2 : CallOk Γ (fun xs H Q => ∃ i j, xs = [.int i, .int j] ∧ Q (.int (if j < i then j else i)) H) fMin2 := fun Wx μ σ H st ws xs Q hs hr h => by
  unfold fMin2 at h
  split at h
  · cases hr with
    | cons r t => cases r; cases t with
      | cons r2 t2 => cases r2; cases t2; exact ⟨_, _, rfl, h.here hs (.int _)⟩
  · exact h.elim
theorem ok_max2 : CallOk Γ (fun xs H Q => ∃ i j, xs = [.int i, .int j] ∧ Q (.int (if j > i then j else i)) H) fMax2 := fun Wx μ σ H st ws xs Q hs hr h => by
  unfold fMax2 at h
  split at h
  · cases hr with
    | cons r t => cases r; cases t with
      | cons r2 t2 => cases r2; cases t2; exact ⟨_, _, rfl, h.here hs (.int _)⟩
  · exact h.elim
theorem ok_gcd : CallOk Γ rGcd fGcd := fun Wx μ σ H st ws xs Q hs hr h => by
  unfold fGcd at h
  split at h
  · cases hr with
    | cons r t => cases r; cases t with
      | cons r2 t2 => cases r2; cases t2; exact ⟨_, _, rfl, h.here hs (.int _)⟩
  · exact h.elim
theorem ok_tuple (hK : X.K = Γ.K) : CallOk Γ (fun xs H Q => ∃ p ys, xs = [.ref p] ∧ ((SqL X.K H p ys ∧ ∀ l, H l = none → Q (.ref l) (upd H l (.tup ys))) ∨ (SqT X.K H p ys ∧ Q (.ref p) H))) fTuple := fun Wx μ σ H st ws xs Q hs hr h => by
  rw [hK]
  unfold fTuple at h
  split at h
  · rename_i w
    split at h
    · rename_i ys e
      cases hr with
      | cons r t =>
        cases t
        obtain ⟨a, zs, rfl, h1, h2⟩ := seqOf_rep hs e r
        refine ⟨a, zs, rfl, ?_⟩
        rcases h1 with h1 | h1
        · refine .inl ⟨h1, fun p hp => ?_⟩
          have E : Ext Γ.K μ μ H (upd H p (.tup zs)) := ext_upd (.inl hp)
          exact h _ _ _ E (hs.other hp) (.tup (.inl (.inl upd_same)) (h2.mono E))
        · exact .inr ⟨h1, h.here hs (.tup h1 h2)⟩
    · exact h.elim
  · exact h.elim
theorem ok_list (hK : X.K = Γ.K) : CallOk Γ (fun xs H Q => ∃ p ys, xs = [.ref p] ∧ (SqL X.K H p ys ∨ SqT X.K H p ys) ∧ ∀ l, H l = none → Q (.ref l) (upd H l (.lst ys))) fList := fun Wx μ σ H st ws xs Q hs hr h => by
  rw [hK]
  unfold fList at h
  split at h
  · rename_i w
    split at h
    · rename_i ys e
      cases hr with
      | cons r t =>
        cases t
        obtain ⟨a, zs, rfl, h1, h2⟩ := seqOf_rep hs e r
        refine ⟨a, zs, rfl, h1, fun p hp => ?_⟩
        have E : Ext Γ.K μ (μ ++ [p]) H (upd H p (.lst zs)) := ext_new hp
        exact h _ _ _ E (hs.new hp ⟨_, upd_same, h2.mono E⟩ (h2.low (Nat.le_of_eq hs.len))) (.ref (by rw [← hs.len]; simp))
    · exact h.elim
  · exact h.elim
theorem insI_perm (x : Int) : ∀ l, (insI x l).Perm (x :: l)
  | [] => .refl _
  | y :: r => by
    unfold insI
    split
    · exact .refl _
    · exact ((insI_perm x r).cons y).trans (.swap x y r)
theorem sortI_perm : ∀ l, (sortI l).Perm l
  | [] => .refl _
  | x :: r => (insI_perm x (sortI r)).trans ((sortI_perm r).cons x)
theorem insI_sorted (x : Int) : ∀ l : List Int, l.Pairwise (· ≤ ·) → (insI x l).Pairwise (· ≤ ·)
  | [], _ => by simp [insI]
  | y :: r, h => by
    unfold insI
    rw [List.pairwise_cons] at h
    split
    · rename_i hx
      rw [List.pairwise_cons]
      refine ⟨fun z hz => ?_, by rw [List.pairwise_cons]; exact h⟩
      rcases List.mem_cons.mp hz with e | e
      · subst e; exact hx
      · have := h.1 z e; omega
    · rename_i hx
      rw [List.pairwise_cons]
      refine ⟨fun z hz => ?_, insI_sorted x r h.2⟩
      rcases List.mem_cons.mp ((insI_perm x r).mem_iff.mp hz) with e | e
      · subst e; omega
      · exact h.1 z e
theorem sortI_sorted : ∀ l : List Int, (sortI l).Pairwise (· ≤ ·)
  | [] => .nil
  | x :: r => insI_sorted x _ (sortI_sorted r)
theorem sorted_unique : ∀ {l l' : List Int}, l.Perm l' → l.Pairwise (· ≤ ·) → l'.Pairwise (· ≤ ·) → l = l'
  | [], l', p, _, _ => (List.Perm.eq_nil p.symm).symm
  | x :: r, [], p, _, _ => by have := p.length_eq; simp at this
  | x :: r, y :: s, p, h, h' => by
    rw [List.pairwise_cons] at h h'
    have e : x = y := by
      have a1 : x ∈ y :: s := p.mem_iff.mp List.mem_cons_self
      have a2 : y ∈ x :: r := p.mem_iff.mpr List.mem_cons_self
      rcases List.mem_cons.mp a1 with e | e
      · exact e
      · rcases List.mem_cons.mp a2 with e2 | e2
        · exact e2.symm
        · have := h'.1 x e
          have := h.1 y e2
          omega
    subst e
    rw [sorted_unique ((List.perm_cons x).mp p) h.2 h'.2]
theorem ok_sortI (hK : X.K = Γ.K) : CallOk Γ (rSortedI X.K) fSortI := fun Wx μ σ H st ws xs Q hs hr h => by
  rw [hK]
  unfold fSortI at h
  split at h
  · rename_i n
    split at h
    · rename_i ns e
      cases hr with
      | cons r t =>
        cases t
        cases e1 : getL st n with
        | none => rw [e1] at e; cases e
        | some ws =>
          rw [e1] at e
          obtain ⟨a, zs, rfl, h1, h2⟩ := getL_rep hs e1 r
          have q := ints_rep e h2
          subst q
          refine ⟨a, ns, rfl, h1, fun ns' p pe so hp => ?_⟩
          have eq := sorted_unique (pe.trans (sortI_perm ns).symm) so (sortI_sorted ns)
          subst eq
          have E : Ext Γ.K μ (μ ++ [p]) H (upd H p (.lst ((sortI ns).map V.int))) := ext_new hp
          have rr : Reps Γ.K μ H ((sortI ns).map W.int) ((sortI ns).map V.int) := Reps.of_ints _
          exact h _ _ _ E (hs.new hp ⟨_, upd_same, rr.mono E⟩ (rr.low (Nat.le_of_eq hs.len))) (.ref (by rw [← hs.len]; simp))
    · exact h.elim
  · exact h.elim
/-- a built-in function by its name -/
theorem qe_blt {id : String} {r : List V → Hp → VK → Prop} {F : List W → Sto → Res W} {x : Str} {p pos : Pos} {e : Expr} {es : List Expr} {eas : Evs} (hc : CallR X (.builtin id) r) (hF : CallOk Γ r F) (hg : Gl X x) (hm : X.mg x = none) (hv : bootBuiltins x = some (.builtin id)) (ha : PA X (e :: es) (tA Γ Wx eas))
    (hn : x ≠ "__name__" := by decide) (hd : (x == ("__debug__" : Str)) = false := by decide) (he : starEach (e :: es) X.env = (false, eval e X.env) :: starEach es X.env := by rfl) (hpl : (backTo pos (starEach es X.env)).any (·.1) = false := by rfl) : PE X (.Call (.Name x p) (e :: es) [] pos) (tE Γ Wx (eB F eas)) :=
  PE_imp (pe_callB hc hg hm hv ha hn hd he hpl) fun σ H Q h => tCB_run hF σ H Q h
theorem qe_typ {T : String} {r : List V → Hp → VK → Prop} {F : List W → Sto → Res W} {x : Str} {p pos : Pos} {e : Expr} {es : List Expr} {eas : Evs} (hc : CallR X (.type T) r) (hF : CallOk Γ r F) (hg : Gl X x) (hm : X.mg x = none) (hv : bootBuiltins x = some (.type T)) (ha : PA X (e :: es) (tA Γ Wx eas))
    (hn : x ≠ "__name__" := by decide) (hd : (x == ("__debug__" : Str)) = false := by decide) (he : starEach (e :: es) X.env = (false, eval e X.env) :: starEach es X.env := by rfl) (hpl : (backTo pos (starEach es X.env)).any (·.1) = false := by rfl) : PE X (.Call (.Name x p) (e :: es) [] pos) (tE Γ Wx (eB F eas)) :=
  PE_imp (pe_callTy hc hg hm hv ha hn hd he hpl) fun σ H Q h => tCB_run hF σ H Q h
theorem qe_bfun {id : String} {r : List V → Hp → VK → Prop} {F : List W → Sto → Res W} {x : Str} {p pos : Pos} {e : Expr} {es : List Expr} {eas : Evs} (hc : CallR X (.builtin id) r) (hF : CallOk Γ r F) (hg : Gl X x) (hm : X.mg x = some (.builtin id)) (ha : PA X (e :: es) (tA Γ Wx eas))
    (hd : (x == ("__debug__" : Str)) = false := by decide) (he : starEach (e :: es) X.env = (false, eval e X.env) :: starEach es X.env := by rfl) (hpl : (backTo pos (starEach es X.env)).any (·.1) = false := by rfl) : PE X (.Call (.Name x p) (e :: es) [] pos) (tE Γ Wx (eB F eas)) :=
  PE_imp (pe_callBfun hc hg hm ha hd he hpl) fun σ H Q h => tCB_run hF σ H Q h

inductive Tn where
  | non | bl | int | str | tup | lst | cls (c : Nat)
def Tn.val (Γ : Gm) : Tn → Value
  | .non => .type "NoneType"
  | .bl => .type "bool"
  | .int => .type "int"
  | .str => .type "str"
  | .tup => .type "tuple"
  | .lst => .type "list"
  | .cls c => .ref (Γ.cl c)
def tnOf (st : Sto) : W → Option Tn
  | .non => some .non
  | .bl _ => some .bl
  | .int _ => some .int
  | .str _ => some .str
  | .tup _ => some .tup
  | .ref n => match st.c[n]? with
    | some (.lst _) => some .lst
    | some (.scr _) => some .lst
    | some (.ins c _) => some (.cls c)
    | none => none
end
end RB

set_option Elab.async false
set_option linter.all false
set_option maxRecDepth 100000
set_option maxHeartbeats 4000000
namespace RB
open PySem PySem.Spec PyProof.Rows L2

/-- what isinstance asks of a class of one's own -/
structure ClsI (K : PySem.W.Frag) (C : Addr) : Prop where
  cl : Cls K C
  ha : PySem.W.findIn K (.ref C) "__class__" = some (some (.builtin "object.__class__"))
  hn : PySem.W.specialIn K (.builtin "object.__class__") "__get__" = some (some (.builtin "getset_descriptor.__get__"))
  ht : PySem.W.takesIn K (.builtin "object.__class__") = some true
  hm : PySem.W.mroIn K C (.type "object") = some true
def Ans (Γ : Gm) (Ts : List Tn) (ans : Tn → Option Bool) : Prop := ∀ t b, ans t = some b → PySem.W.kitAny Γ.K (t.val Γ) (Ts.map (Tn.val Γ)) = some b
def eIsi (ans : Tn → Option Bool) (a : Ev) : Ev := fun l st => (a l st).bind fun w st1 => match (tnOf st1 w).bind ans with | some b => .ok (.bl b) st1 | none => .err
section
variable {X : Cx} {Γ : Gm} {Wx : WX} {e a b o : Expr} {es : List Expr} {ea eb eo : Ev} {eas : Evs}
theorem tnOf_rep {μ : List Addr} {H : Hp} {st : Sto} {w : W} {v : V} {t : Tn} (hc : ∀ c, t = .cls c → ClsI Γ.K (Γ.cl c)) (hs : Sim Γ μ st H) (h : tnOf st w = some t) (r : Rep Γ.K μ H w v) : TyX Γ.K H v (t.val Γ) := by
  cases r with
  | non => cases h; exact .base .non
  | bl b => cases h; exact .base (.bl b)
  | int i => cases h; exact .base (.int i)
  | str x => cases h; exact .base (.str x)
  | tup q _ =>
    cases h
    rcases q with (q | ⟨ob, q⟩) | ⟨ob, its, n, q1, q2, _⟩
    · exact .base (.tup q)
    · exact .fTuple q
    · exact .kTuple q1 q2
  | ref hm =>
    rename_i n a
    simp only [tnOf] at h
    split at h
    · rename_i ws ec
      cases h
      obtain ⟨xs, q1, q2⟩ := hs.cell n _ _ ec hm
      exact .base (.lst q1)
    · rename_i ws ec
      cases h
      obtain ⟨xs, q1 | ⟨ob, q1⟩, q2⟩ := hs.cell n _ _ ec hm
      · obtain ⟨ob, its, k, z1, z2, _⟩ := q1
        exact .kList z1 z2
      · exact .base (.frz q1)
    · rename_i c fs ec
      cases h
      obtain ⟨dx, gs, q1, q2⟩ := hs.cell n _ _ ec hm
      have I := hc c rfl
      exact .base (.ins q1 I.cl I.ha I.hn I.ht I.hm)
    · cases h
/-- every class whose instances are made here is fit for isinstance -/
def AllI (Γ : Gm) (ans : Tn → Option Bool) : Prop := ∀ c b, ans (.cls c) = some b → ClsI Γ.K (Γ.cl c)
theorem qe_isi1 {T : Tn} {ans : Tn → Option Bool} {te : Expr} {v : V} {p pos : Pos} (hA : AllI Γ ans) (hK : X.K = Γ.K) (hg : Gl X "isinstance") (hm : X.mg "isinstance" = none) (ha : PE X a (tE Γ Wx ea)) (hT : PE X te (tC v)) (hv : ClsV v (T.val Γ)) (hans : Ans Γ [T] ans)
    (he : starEach (a :: [te]) X.env = (false, eval a X.env) :: starEach [te] X.env := by rfl) (he2 : starEach (te :: []) X.env = (false, eval te X.env) :: starEach [] X.env := by rfl) (hpl : (backTo pos (starEach [te] X.env)).any (·.1) = false := by rfl) : PE X (.Call (.Name "isinstance" p) [a, te] [] pos) (tE Γ Wx (eIsi ans ea)) :=
  PE_imp (pe_callB call_isi hg hm (by decide +kernel) (pa_cons ha (pa_cons hT pa_nil he2) he) (by decide) (by decide) he hpl) fun σ H Q ⟨μ, l, st, hs, hl, h⟩ => tG_bind hs hl h _ fun w st1 μ1 H1 x e1 s1 r1 h1 => by
    split at h1
    · rename_i b eb
      cases et : tnOf st1 w with
      | none => rw [et] at eb; cases eb
      | some t =>
        rw [et] at eb
        have k := hans t b eb
        simp only [List.map_cons, List.map_nil, PySem.W.kitAny] at k
        have k2 : PySem.W.kitOne Γ.K (t.val Γ) (T.val Γ) = some b := by
          cases q : PySem.W.kitOne Γ.K (t.val Γ) (T.val Γ) with
          | none => rw [q] at k; cases k
          | some c => rw [q] at k; cases c <;> exact k
        rw [hK]
        exact ⟨x, v, _, _, b, rfl, hv, tnOf_rep (fun c hc => hA c b (hc ▸ eb)) s1 et r1, k2, h1.here s1 (.bl b)⟩
    · exact h1.elim
theorem qe_isi2 {T1 T2 : Tn} {ans : Tn → Option Bool} {t1 t2 : Expr} {v1 v2 : V} {p pos tpos : Pos} {x1} (hA : AllI Γ ans) (hK : X.K = Γ.K) (hg : Gl X "isinstance") (hm : X.mg "isinstance" = none) (ha : PE X a (tE Γ Wx ea)) (hT1 : PE X t1 (tC v1)) (hv1 : ClsV v1 (T1.val Γ)) (hT2 : PE X t2 (tC v2)) (hv2 : ClsV v2 (T2.val Γ)) (hans : Ans Γ [T1, T2] ans)
    (he : starEach (a :: [.Tuple [t1, t2] x1 tpos]) X.env = (false, eval a X.env) :: starEach [.Tuple [t1, t2] x1 tpos] X.env := by rfl) (he2 : starEach (.Tuple [t1, t2] x1 tpos :: []) X.env = (false, eval (.Tuple [t1, t2] x1 tpos) X.env) :: starEach [] X.env := by rfl)
    (hs1 : starEach (t1 :: [t2]) X.env = (false, eval t1 X.env) :: starEach [t2] X.env := by rfl) (hs2 : starEach (t2 :: []) X.env = (false, eval t2 X.env) :: starEach [] X.env := by rfl)
    (hpl : (backTo pos (starEach [.Tuple [t1, t2] x1 tpos] X.env)).any (·.1) = false := by rfl) : PE X (.Call (.Name "isinstance" p) [a, .Tuple [t1, t2] x1 tpos] [] pos) (tE Γ Wx (eIsi ans ea)) :=
  PE_imp (pe_callB call_isiT hg hm (by decide +kernel) (pa_cons ha (pa_cons (pe_tup (pa_cons hT1 (pa_cons hT2 pa_nil hs2) hs1)) pa_nil he2) he) (by decide) (by decide) he hpl) fun σ H Q ⟨μ, l, st, hs, hl, h⟩ => tG_bind hs hl h _ fun w st1 μ1 H1 x e1 s1 r1 h1 => by
    refine ⟨le1000 (by simp), fun q hq => ?_⟩
    split at h1
    · rename_i b eb
      cases et : tnOf st1 w with
      | none => rw [et] at eb; cases eb
      | some t =>
        rw [et] at eb
        have E : Ext Γ.K μ1 μ1 H1 (upd H1 q (.tup [v1, v2])) := ext_upd (.inl hq)
        have s2 := s1.other (o := .tup [v1, v2]) hq
        rw [hK]
        exact ⟨x, q, [v1, v2], _, _, b, rfl, upd_same, .cons hv1 (.cons hv2 .nil), tnOf_rep (fun c hc => hA c b (hc ▸ eb)) s2 et (r1.mono E), hans t b eb, h1 _ _ _ E s2 (.bl b)⟩
    · exact h1.elim

abbrev Po := Lo → Sto → Res (Option Int)
def poNone : Po := fun _ st => .ok none st
def poSome (a : Ev) : Po := fun l st => (a l st).bind fun w st1 => match w with | .int i => .ok (some i) st1 | _ => .err
def cutW {α : Type} (xs : List α) (lo hi : Option Int) : List α := (xs.drop (HT.sIx xs.length 0 lo)).take (HT.sIx xs.length xs.length hi - HT.sIx xs.length 0 lo)
def wSl (x : W) (lo hi : Option Int) (st : Sto) : Res W := match x with
  | .tup ws => .ok (.tup (cutW ws lo hi)) st
  | .ref n => match getL st n with | some ws => .ok (.ref st.c.length) (st.push (.lst (cutW ws lo hi))) | none => .err
  | _ => .err
def eSl (a : Ev) (lo hi : Po) : Ev := fun l st => (a l st).bind fun x st1 => (lo l st1).bind fun i st2 => (hi l st2).bind fun j st3 => wSl x i j st3
abbrev tP (Γ : Gm) (Wx : WX) (f : Po) : TO := fun σ H Q => tG Γ Wx (fun _ _ a b => a = b) f σ H Q
theorem PO_imp {e : Option Expr} {t t' : TO} (h : PO X e t) (k : ∀ σ H Q, t' σ H Q → t σ H Q) : PO X e t' := ⟨fun pins s σ H Q I q => h.run pins s σ H Q I (k _ _ _ q)⟩
theorem qo_none : PO X none (tP Γ Wx poNone) := PO_imp po_none fun σ H Q ⟨μ, l, st, hs, hl, h⟩ => h.here hs rfl
theorem qo_some (ha : PE X a (tE Γ Wx ea)) : PO X (some a) (tP Γ Wx (poSome ea)) := PO_imp (po_some ha) fun σ H Q ⟨μ, l, st, hs, hl, h⟩ => tG_bind hs hl h _ fun w st1 μ1 H1 v e1 s1 r1 h1 => by
  cases w with
  | int i => cases r1; exact ⟨i, rfl, h1.here s1 rfl⟩
  | _ => exact h1.elim
theorem cut_rep {μ : List Addr} {H : Hp} {K : PySem.W.Frag} {ws : List W} {xs : List V} (r : Reps K μ H ws xs) (lo hi : Option Int) : Reps K μ H (cutW ws lo hi) (cutV xs lo hi) := by
  unfold cutW cutV
  rw [r.length]
  exact (r.drop _).take _
theorem cutW_whole {ws : List W} {lo hi : Option Int} (h1 : HT.sIx ws.length 0 lo = 0) (h2 : HT.sIx ws.length ws.length hi = ws.length) : cutW ws lo hi = ws := by
  unfold cutW
  rw [h1, h2]
  simp
theorem qe_sl {lo hi : Option Expr} {pl ph : Po} {pos p2 : Pos} (hK : X.K = Γ.K) (ha : PE X a (tE Γ Wx ea)) (hl : PO X lo (tP Γ Wx pl)) (hh : PO X hi (tP Γ Wx ph)) : PE X (.Subscript a (.Slice lo hi none p2) pos) (tE Γ Wx (eSl ea pl ph)) :=
  PE_imp (pe_slice (SlR.or sl_tupA sl_list) ha hl hh) fun σ H Q ⟨μ, l, st, hs, hl, h⟩ => tG_bind hs hl h _ fun w st1 μ1 H1 v e1 s1 r1 h1 => tG_bind s1 (hl.mono e1) h1 _ fun i st2 μ2 H2 i' e2 s2 r2 h2 => tG_bind s2 (hl.mono (e1.trans e2)) h2 _ fun j st3 μ3 H3 j' e3 s3 r3 h3 => by
    subst r2 r3
    have r1 := r1.mono (e2.trans e3)
    rw [hK]
    cases w with
    | tup ws =>
      cases r1 with
      | tup q1 q2 =>
        rename_i aa xs
        refine .inl ⟨_, _, rfl, q1, fun ⟨z1, z2⟩ => ?_, fun _ p hp => ?_⟩
        · rw [← q2.length] at z1 z2
          have h3 : Post Γ Wx (Rep Γ.K) μ3 σ H3 Q (.ok (.tup (cutW ws i j)) st3) := h3
          rw [cutW_whole z1 z2] at h3
          exact h3.here s3 (.tup q1 q2)
        · have E : Ext Γ.K μ3 μ3 H3 (upd H3 p (.tup (cutV xs i j))) := ext_upd (.inl hp)
          exact h3 _ _ _ E (s3.other hp) (.tup (.inl (.inl upd_same)) ((cut_rep q2 i j).mono E))
    | ref n =>
      simp only [wSl] at h3
      cases e4 : getL st3 n with
      | none => rw [e4] at h3; exact h3.elim
      | some ws =>
        rw [e4] at h3
        obtain ⟨aa, xs, rfl, q1, q2⟩ := getL_rep s3 e4 r1
        refine .inr ⟨aa, xs, rfl, q1, fun p hp => ?_⟩
        have E : Ext Γ.K μ3 (μ3 ++ [p]) H3 (upd H3 p (.lst (cutV xs i j))) := ext_new hp
        have rr := cut_rep q2 i j
        exact h3 _ _ _ E (s3.new hp ⟨_, upd_same, rr.mono E⟩ (rr.low (Nat.le_of_eq s3.len))) (.ref (by rw [← s3.len]; simp))
    | _ => exact h3.elim

def MtOk (Γ : Gm) (r : V → List V → Hp → VK → Prop) (F : W → List W → Sto → Res W) : Prop := ∀ (Wx : WX) μ (σ : L2.St) H st w x ws xs (Q : VK), Sim Γ μ st H → Rep Γ.K μ H w x → Reps Γ.K μ H ws xs → Post Γ Wx (Rep Γ.K) μ σ H Q (F w ws st) → (∃ n us, w = .ref n ∧ st.c[n]? = some (.lst us)) ∧ r x xs H Q
def isL (st : Sto) (w : W) : Bool := match w with | .ref n => (match st.c[n]? with | some (.lst _) => true | _ => false) | _ => false
theorem isL_at {st : Sto} {w : W} (h : isL st w = true) : ∃ n us, w = .ref n ∧ st.c[n]? = some (.lst us) := by
  unfold isL at h
  split at h
  · rename_i n
    split at h
    · rename_i us e
      exact ⟨n, us, rfl, e⟩
    · cases h
  · cases h
def eMt (F : W → List W → Sto → Res W) (o : Ev) (a : Evs) : Ev := fun l st => (o l st).bind fun x st1 => if isL st1 x = true then ((a l st1).bind fun ws st2 => F x ws st2) else .err
def fAppend (w : W) (ws : List W) (st : Sto) : Res W := match w, ws with
  | .ref n, [y] => match st.c[n]? with | some (.lst us) => if us.length < 1000000 then .ok .non (st.put n (.lst (us ++ [y])) (W.low n y)) else .err | _ => .err
  | _, _ => .err
def fExtend (w : W) (ws : List W) (st : Sto) : Res W := match w, ws with
  | .ref n, [.ref m] => match st.c[n]?, st.c[m]? with | some (.lst us), some (.lst vs) => if us.length + vs.length ≤ 1000000 then .ok .non (st.put n (.lst (us ++ vs)) (W.lows n vs)) else .err | _, _ => .err
  | _, _ => .err
def fPopAt (w : W) (ws : List W) (st : Sto) : Res W := match w, ws with
  | .ref n, [.int i] => match st.c[n]? with | some (.lst us) => if -(2 ^ 63) ≤ i ∧ i < 2 ^ 63 then (match seqIndex? i us.length with | some k => (match us[k]? with | some y => .ok y (st.put n (.lst (us.eraseIdx k)) true) | none => .err) | none => .err) else .err | _ => .err
  | _, _ => .err
theorem lows_append {n : Nat} : ∀ {a b : List W}, W.lows n a = true → W.lows n b = true → W.lows n (a ++ b) = true
  | [], _, _, h => h
  | x :: r, b, h, h2 => by
    simp [W.lows] at h
    simp [W.lows, h.1]
    exact lows_append h.2 h2
theorem lows_erase {n : Nat} : ∀ {a : List W} (k : Nat), W.lows n a = true → W.lows n (a.eraseIdx k) = true
  | [], _, _ => rfl
  | x :: r, 0, h => by simp [W.lows] at h; simpa using h.2
  | x :: r, k + 1, h => by
    simp [W.lows] at h
    simp [W.lows, h.1]
    exact lows_erase k h.2
theorem lows_set {n : Nat} {v : W} (hv : W.low n v = true) : ∀ {a : List W} (k : Nat), W.lows n a = true → W.lows n (a.set k v) = true
  | [], _, _ => rfl
  | x :: r, 0, h => by simp [W.lows] at h; simp [W.lows, hv, h.2]
  | x :: r, k + 1, h => by
    simp [W.lows] at h
    simp [W.lows, h.1]
    exact lows_set hv k h.2
theorem ext_wr {K : PySem.W.Frag} {μ : List Addr} {H : Hp} {p : Addr} {xs : List V} {o : HO} (hp : H p = some (.lst xs)) : Ext K μ μ H (upd H p o) := ext_upd (.inr ⟨xs, hp⟩)
theorem mok_append : MtOk Γ rAppend fAppend := fun Wx μ σ H st w x ws xs Q hs hr hrs h => by
  unfold fAppend at h
  split at h
  · rename_i n y
    split at h
    · rename_i us ec
      split at h
      · rename_i hlen
        refine ⟨⟨n, us, rfl, ec⟩, ?_⟩
        cases hr with
        | ref hm =>
          cases hrs with
          | @cons _ yv _ _ ry t =>
            cases t
            obtain ⟨vs, q1, q2⟩ := hs.cell n _ _ ec hm
            refine ⟨_, vs, _, rfl, rfl, q1, by rw [← q2.length]; exact Nat.lt_of_lt_of_le hlen (le_line (Nat.le_refl _)), ?_⟩
            have E := ext_wr (K := Γ.K) (μ := μ) (o := .lst (vs ++ [yv])) q1
            have rr := q2.snoc ry
            refine h _ _ _ E (hs.write ec hm q1 rfl rfl ⟨_, upd_same, rr.mono E⟩ fun b q => ?_) .non
            exact lows_append q (by simp [W.lows]; exact b)
      · exact h.elim
    · exact h.elim
  · exact h.elim
theorem mok_extend : MtOk Γ rExtend fExtend := fun Wx μ σ H st w x ws xs Q hs hr hrs h => by
  unfold fExtend at h
  split at h
  · rename_i n m
    split at h
    · rename_i us vs ec ed
      split at h
      · rename_i hlen
        refine ⟨⟨n, us, rfl, ec⟩, ?_⟩
        cases hr with
        | ref hm =>
          cases hrs with
          | cons ry t =>
            cases t
            cases ry with
            | ref hm2 =>
              obtain ⟨as, q1, q2⟩ := hs.cell n _ _ ec hm
              obtain ⟨bs, p1, p2⟩ := hs.cell m _ _ ed hm2
              refine ⟨_, _, as, bs, rfl, rfl, q1, p1, by rw [← q2.length, ← p2.length]; exact le_line hlen, ?_⟩
              have E := ext_wr (K := Γ.K) (μ := μ) (o := .lst (as ++ bs)) q1
              have rr := q2.append p2
              exact h _ _ _ E (hs.write ec hm q1 rfl rfl ⟨_, upd_same, rr.mono E⟩ fun b q => lows_append q b) .non
      · exact h.elim
    · exact h.elim
  · exact h.elim
theorem mok_popAt : MtOk Γ rPopAt fPopAt := fun Wx μ σ H st w x ws xs Q hs hr hrs h => by
  unfold fPopAt at h
  split at h
  · rename_i n i
    split at h
    · rename_i us ec
      split at h
      · rename_i hi
        split at h
        · rename_i k ek
          split at h
          · rename_i y ey
            refine ⟨⟨n, us, rfl, ec⟩, ?_⟩
            cases hr with
            | ref hm =>
              cases hrs with
              | cons ry t =>
                cases t
                cases ry
                obtain ⟨vs, q1, q2⟩ := hs.cell n _ _ ec hm
                obtain ⟨v, z1, z2⟩ := q2.get ey
                refine ⟨_, vs, i, k, v, rfl, rfl, q1, hi.1, hi.2, by rw [← q2.length]; exact ek, z1, ?_⟩
                have E := ext_wr (K := Γ.K) (μ := μ) (o := .lst (vs.eraseIdx k)) q1
                have rr := q2.eraseIdx k
                exact h _ _ _ E (hs.write ec hm q1 rfl rfl ⟨_, upd_same, rr.mono E⟩ fun b q => lows_erase k q) (z2.mono E)
          · exact h.elim
        · exact h.elim
      · exact h.elim
    · exact h.elim
  · exact h.elim
theorem qe_mt {id : String} {name : Str} {r : V → List V → Hp → VK → Prop} {F : W → List W → Sto → Res W} {apos cpos : Pos} (hK : X.K = Γ.K) (slot : Slot "list" name id) (hty : typeOf (.builtin id) = pure (.type "method_descriptor")) (hm : MtR X id r) (hF : MtOk Γ r F) (ho : PE X o (tE Γ Wx eo)) (ha : PA X (e :: es) (tA Γ Wx eas))
    (hbase : attributeBase o name X.env (eval o X.env) = eval o X.env := by rfl)
    (hfew : ((backTo cpos (starEach (e :: es) X.env)).all (fun x => !x.1) && (backToKw cpos (keywordEach [] X.env)).all (fun x => x.1.isSome) && decide ((e :: es).length + ([] : List Keyword).length + (if ([] : List Keyword).isEmpty then 0 else 1) < 30)) = true := by rfl)
    (hline : (apos.endLine == cpos.line) = true := by rfl) (hs : starEach (e :: es) X.env = (false, eval e X.env) :: starEach es X.env := by rfl) (hplain : (backTo cpos (starEach es X.env)).any (·.1) = false := by rfl) : PE X (.Call (.Attribute o name apos) (e :: es) [] cpos) (tE Γ Wx (eMt F eo eas)) :=
  PE_imp (pe_bm PySem.F.plainAttrs_list slot hty hm ho ha hbase hfew hline hs hplain) fun σ H Q ⟨μ, l, st, hs, hl, h⟩ => tG_bind hs hl h _ fun w st1 μ1 H1 v e1 s1 r1 h1 => by
    split at h1
    · rename_i hl1
      obtain ⟨n, us, rfl, ec⟩ := isL_at hl1
      refine ⟨?_, tG_bind s1 (hl.mono e1) h1 _ fun ws st2 μ2 H2 xs e2 s2 r2 h2 => (hF Wx μ2 σ H2 st2 (.ref n) v ws xs Q s2 (r1.mono e2) r2 h2).2⟩
      cases r1 with
      | ref hmm =>
        obtain ⟨vs, q1, q2⟩ := s1.cell n _ _ ec hmm
        exact .inl ⟨rfl, vs, by rw [hK]; exact .inl (.inl q1)⟩
    · exact h1.elim

def sIxW (o i e : Ev) : Sx := fun l st => xs (e l st) l fun v st1 => xs (o l st1) l fun x st2 => xs (i l st2) l fun y st3 => match x, y with
  | .ref n, .int k => match st3.c[n]? with
    | some (.lst us) => match ixN us.length k with | some j => .nx l (st3.put n (.lst (us.set j v)) (W.low n v)) | none => .err
    | _ => .err
  | _, _ => .err
theorem qs_ixw {i : Expr} {ei : Ev} {pos pos' : Pos} (he : PE X e (tE Γ Wx ea)) (ho : PE X o (tE Γ Wx eo)) (hi : PE X i (tE Γ Wx ei))
    (hsub : ∀ v, assign (.Subscript o i pos') X.env v = (do let ov ← holding [v] (eval o X.env); let iv ← holding [v, ov] (eval i X.env); standAt pos'; holding [v, ov, iv] (setItem ov iv v); release [v, ov, iv] []) := by intro _; rfl)
    (hs : swapsWithSole [.Subscript o i pos'] e pos.line X.env = pure false := by rfl) (hw : swappedStores [.Subscript o i pos'] e X.env = pure none := by rfl) (h1 : (assignEach [.Subscript o i pos'] X.env).map (·.2) = [assign (.Subscript o i pos') X.env] := by rfl) :
    PS X (.Assign [.Subscript o i pos'] e pos) (tS Γ Wx (sIxW eo ei ea)) :=
  PS_imp (ps_asg he (pg_sub ho hi set_list hsub) hs hw h1) fun D σ H ⟨μ, l, st, hs, hl, h⟩ => tG_bindS hs hl h _ fun v st1 μ1 H1 vv e1 s1 r1 h1 => tG_bindS s1 (hl.mono e1) h1 _ fun x st2 μ2 H2 xv e2 s2 r2 h2 => tG_bindS s2 (hl.mono (e1.trans e2)) h2 _ fun y st3 μ3 H3 yv e3 s3 r3 h3 => by
    split at h3
    · rename_i n k
      split at h3
      · rename_i us ec
        split at h3
        · rename_i j ej
          cases r3
          cases r2 with
          | ref hm =>
            have hm := e3.pre _ _ hm
            obtain ⟨as, q1, q2⟩ := s3.cell n _ _ ec hm
            refine ⟨_, as, k, j, rfl, rfl, q1, by rw [← q2.length]; exact ej, ?_⟩
            have E := ext_wr (K := Γ.K) (μ := μ3) (o := .lst (as.set j vv)) q1
            have rr := q2.set (r1.mono (e2.trans e3)) j
            exact h3 _ _ _ E (s3.write ec hm q1 rfl rfl ⟨_, upd_same, rr.mono E⟩ fun b q => lows_set b j q) (hl.mono (e1.trans (e2.trans (e3.trans E))))
        · exact h3.elim
      · exact h3.elim
    · exact h3.elim
end
end RB

set_option Elab.async false
set_option linter.all false
set_option maxRecDepth 100000
set_option maxHeartbeats 4000000
namespace RB
open PySem PySem.Spec PyProof.Rows L2

abbrev Sv := Lo → Sto → Res Src
def vSeq (a : Ev) : Sv := fun l st => (a l st).bind fun w st1 => match w with
  | .tup ws => .ok (.fix ws) st1
  | .ref n => match getL st1 n with | some _ => .ok (.live n) st1 | none => .err
  | _ => .err
def upFrom (lo : Int) : Nat → List W
  | 0 => []
  | n + 1 => .int lo :: upFrom (lo + 1) n
def vRng1 (a : Evs) : Sv := fun l st => (a l st).bind fun ws st1 => match ws with | [.int j] => if -1000000 ≤ j ∧ j ≤ 1000000 then .ok (.fix (upFrom 0 j.toNat)) st1 else .err | _ => .err
def vRng2 (a : Evs) : Sv := fun l st => (a l st).bind fun ws st1 => match ws with | [.int i, .int j] => if (-1000000 ≤ i ∧ i ≤ 1000000) ∧ -1000000 ≤ j ∧ j ≤ 1000000 then .ok (.fix (upFrom i (j - i).toNat)) st1 else .err | _ => .err
theorem upFrom_get : ∀ (lo : Int) (n i : Nat), (upFrom lo n)[i]? = if i < n then some (.int (lo + i)) else none
  | lo, 0, i => by simp [upFrom]
  | lo, n + 1, 0 => by simp [upFrom]
  | lo, n + 1, i + 1 => by
    simp only [upFrom, List.getElem?_cons_succ]
    rw [upFrom_get (lo + 1) n i]
    by_cases h : i < n
    · rw [if_pos h, if_pos (by omega)]
      congr 2
      omega
    · rw [if_neg h, if_neg (by omega)]
section
variable {X : Cx} {Γ : Gm} {Wx : WX} {e a b o tg iter elt : Expr} {es : List Expr} {ea eb eo : Ev} {eas : Evs}
theorem getLive {μ : List Addr} {H : Hp} {st : Sto} {n : Nat} {a : Addr} {ws : List W} (hs : Sim Γ μ st H) (hm : μ[n]? = some a) (h : getL st n = some ws) : ∃ xs, SqL Γ.K H a xs ∧ Reps Γ.K μ H ws xs := by
  obtain ⟨a', xs, e, h1, h2⟩ := getL_rep (v := .ref a) hs h (.ref hm)
  cases e
  exact ⟨xs, h1, h2⟩
theorem itok_live {μ : List Addr} {H : Hp} {n : Nat} {a : Addr} (hm : μ[n]? = some a) : ItOk Γ (Itl Γ.K a) (.live n) μ H := fun μ' H' st' e s i => by
  have hm := e.pre _ _ hm
  refine ⟨fun w h => ?_, fun h => ?_⟩
  · simp only [Src.at] at h
    cases eg : getL st' n with
    | none => rw [eg] at h; cases h
    | some ws =>
      rw [eg] at h
      have h : ws[i]? = some w := by simpa using h
      obtain ⟨xs, q1, q2⟩ := getLive s hm eg
      obtain ⟨v, z1, z2⟩ := q2.get h
      refine ⟨⟨xs, v, q1, z1⟩, fun x H'' hy => ?_⟩
      obtain ⟨rfl, hx⟩ := hy
      have := (hx xs q1).symm.trans z1
      cases this
      exact ⟨.refl, s, z2⟩
  · simp only [Src.at] at h
    cases eg : getL st' n with
    | none => rw [eg] at h; cases h
    | some ws =>
      rw [eg] at h
      have h : ws[i]? = none := by simpa using h
      obtain ⟨xs, q1, q2⟩ := getLive s hm eg
      exact ⟨xs, q1, by rw [← q2.length]; exact List.getElem?_eq_none_iff.mp h⟩
theorem itok_fix {μ : List Addr} {H : Hp} {a : Addr} {ws : List W} {xs : List V} (h1 : SqT Γ.K H a xs) (h2 : Reps Γ.K μ H ws xs) : ItOk Γ (Itt Γ.K a) (.fix ws) μ H := fun μ' H' st' e s i => by
  have q1 := e.tup _ _ h1
  have q2 := h2.mono e
  refine ⟨fun w h => ?_, fun h => ?_⟩
  · have h : ws[i]? = some w := by simpa [Src.at] using h
    obtain ⟨v, z1, z2⟩ := q2.get h
    refine ⟨⟨xs, v, q1, z1⟩, fun x H'' hy => ?_⟩
    obtain ⟨rfl, hx⟩ := hy
    have := (hx xs q1).symm.trans z1
    cases this
    exact ⟨.refl, s, z2⟩
  · have h : ws[i]? = none := by simpa [Src.at] using h
    exact ⟨xs, q1, by rw [← q2.length]; exact List.getElem?_eq_none_iff.mp h⟩
theorem itok_rng {μ : List Addr} {H : Hp} (lo : Int) (n : Nat) : ItOk Γ (Itr lo n) (.fix (upFrom lo n)) μ H := fun μ' H' st' e s i => by
  refine ⟨fun w h => ?_, fun h => ?_⟩
  · have h : (upFrom lo n)[i]? = some w := by simpa [Src.at] using h
    rw [upFrom_get] at h
    split at h
    · rename_i hi
      cases h
      refine ⟨hi, fun x H'' hy => ?_⟩
      obtain ⟨rfl, rfl⟩ := hy
      exact ⟨.refl, s, .int _⟩
    · cases h
  · have h : (upFrom lo n)[i]? = none := by simpa [Src.at] using h
    rw [upFrom_get] at h
    split at h
    · cases h
    · rename_i hi
      exact Nat.le_of_not_lt hi
/-- a list or a tuple -/
theorem qi_seq (hK : X.K = Γ.K) (ha : PE X iter (tE Γ Wx ea)) : PI X tg iter (tI Γ Wx (vSeq ea)) :=
  PI_imp (PI_or (pi_list ha) (pi_tup ha)) fun σ H R ⟨μ, l, st, hs, hl, h⟩ => by
    rw [hK]
    unfold vSeq at h
    cases ee : ea l st with
    | err => rw [ee] at h; exact h.elim
    | exc c p st1 =>
      rw [ee] at h
      exact .inl ⟨μ, l, st, hs, hl, by rw [ee]; exact h⟩
    | ok w st1 =>
      rw [ee] at h
      simp only [Res.bind] at h
      cases w with
      | tup ws =>
        refine .inr ⟨μ, l, st, hs, hl, ?_⟩
        rw [ee]
        intro μ1 H1 v e1 s1 r1
        cases r1 with
        | tup q1 q2 => exact ⟨_, rfl, ⟨_, q1⟩, h μ1 H1 _ e1 s1 (itok_fix q1 q2)⟩
      | ref n =>
        refine .inl ⟨μ, l, st, hs, hl, ?_⟩
        rw [ee]
        intro μ1 H1 v e1 s1 r1
        cases eg : getL st1 n with
        | none => simp only [eg] at h
        | some ws =>
          simp only [eg] at h
          cases r1 with
          | ref hm =>
            obtain ⟨xs, q1, q2⟩ := getLive s1 hm eg
            exact ⟨_, rfl, ⟨_, q1⟩, h μ1 H1 _ e1 s1 (itok_live hm)⟩
      | _ => exact h.elim
theorem vbind {f : Lo → Sto → Res (List W)} {k : List W → Sto → Res Src} {μ : List Addr} {l : Lo} {st : Sto} {σ : L2.St} {H : Hp} {R : It → Hp → Prop} (hs : Sim Γ μ st H) (hl : LRep Γ.K μ H l σ) (h : match (f l st).bind k with
  | .ok s st' => ∀ μ' H' J, Ext Γ.K μ μ' H H' → Sim Γ μ' st' H' → ItOk Γ J s μ' H' → R J H'
  | .exc c p st' => ∀ μ' H' d v, Ext Γ.K μ μ' H H' → Sim Γ μ' st' H' → Rep Γ.K μ' H' p v → H' d = some (.xd [(Γ.fld c, v)]) → Wx (.ref (Γ.ec c)) (some d) σ H'
  | .err => False) (S : List V → Hp → Prop) (hS : ∀ a st1 μ1 H1 b, Ext Γ.K μ μ1 H H1 → Sim Γ μ1 st1 H1 → Reps Γ.K μ1 H1 a b → (match k a st1 with
  | .ok s st' => ∀ μ' H' J, Ext Γ.K μ1 μ' H1 H' → Sim Γ μ' st' H' → ItOk Γ J s μ' H' → R J H'
  | .exc c p st' => ∀ μ' H' d v, Ext Γ.K μ1 μ' H1 H' → Sim Γ μ' st' H' → Rep Γ.K μ' H' p v → H' d = some (.xd [(Γ.fld c, v)]) → Wx (.ref (Γ.ec c)) (some d) σ H'
  | .err => False) → S b H1) : tA Γ Wx f σ H S := by
  refine ⟨μ, l, st, hs, hl, ?_⟩
  cases e : f l st with
  | err => rw [e] at h; exact h
  | exc c p st1 => rw [e] at h; exact h
  | ok a st1 =>
    rw [e] at h
    intro μ1 H1 b e1 s1 r1
    refine hS a st1 μ1 H1 b e1 s1 r1 ?_
    simp only [Res.bind] at h
    cases ek : k a st1 with
    | err => rw [ek] at h; exact h
    | exc c p st2 => rw [ek] at h; exact fun μ2 H2 d v e2 => h μ2 H2 d v (e1.trans e2)
    | ok s st2 => rw [ek] at h; exact fun μ2 H2 J e2 => h μ2 H2 J (e1.trans e2)
theorem qi_rng1 {p pos : Pos} (hg : Gl X "range") (hm : X.mg "range" = none) (ha : PA X [a] (tA Γ Wx eas)) (hs : starEach [a] X.env = [(false, eval a X.env)] := by rfl) : PI X tg (.Call (.Name "range" p) [a] [] pos) (tI Γ Wx (vRng1 eas)) :=
  PI_imp (pi_range1 hg hm ha hs) fun σ H R ⟨μ, l, st, hs, hl, h⟩ => vbind hs hl h _ fun ws st1 μ1 H1 xs e1 s1 r1 h1 => by
    cases r1 with
    | nil => exact h1.elim
    | cons r t =>
      cases t with
      | cons _ _ => cases r <;> exact h1.elim
      | nil =>
        cases r with
        | int j =>
          dsimp only at h1
          by_cases hj : -1000000 ≤ j ∧ j ≤ 1000000
          · rw [if_pos hj] at h1
            exact ⟨j, rfl, by omega, by omega, h1 μ1 H1 _ .refl s1 (itok_rng 0 _)⟩
          · rw [if_neg hj] at h1; exact h1.elim
        | _ => exact h1.elim
theorem qi_rng2 {p pos : Pos} (hg : Gl X "range") (hm : X.mg "range" = none) (ha : PA X [a, b] (tA Γ Wx eas)) (hs : starEach [a, b] X.env = [(false, eval a X.env), (false, eval b X.env)] := by rfl) (hs2 : starEach [b] X.env = [(false, eval b X.env)] := by rfl) : PI X tg (.Call (.Name "range" p) [a, b] [] pos) (tI Γ Wx (vRng2 eas)) :=
  PI_imp (pi_range2 hg hm ha hs hs2) fun σ H R ⟨μ, l, st, hs, hl, h⟩ => vbind hs hl h _ fun ws st1 μ1 H1 xs e1 s1 r1 h1 => by
    cases r1 with
    | nil => exact h1.elim
    | cons r t =>
      cases t with
      | nil => cases r <;> exact h1.elim
      | cons r2 t2 =>
        cases t2 with
        | cons _ _ => cases r <;> cases r2 <;> exact h1.elim
        | nil =>
          cases r with
          | int i =>
            cases r2 with
            | int j =>
              dsimp only at h1
              by_cases hj : (-1000000 ≤ i ∧ i ≤ 1000000) ∧ -1000000 ≤ j ∧ j ≤ 1000000
              · rw [if_pos hj] at h1
                exact ⟨i, j, rfl, by omega, h1 μ1 H1 _ .refl s1 (itok_rng i _)⟩
              · rw [if_neg hj] at h1; exact h1.elim
            | _ => exact h1.elim
          | _ => cases r2 <;> exact h1.elim

abbrev W0 : WX := fun _ _ _ _ => False
def bYes : Bv := fun _ st => .ok true st
theorem PTs_imp {ifs : List Expr} {t t' : TT} (h : PTs X ifs t) (k : ∀ σ H Q, t' σ H Q → t σ H Q) : PTs X ifs t' := ⟨fun pins s σ H Q I q => h.run pins s σ H Q I (k _ _ _ q)⟩
theorem qc_nil : PTs X [] (tT Γ Wx bYes) := PTs_imp pts_nil fun σ H Q ⟨μ, l, st, hs, hl, h⟩ => h.here hs rfl
theorem qc_one {c : Expr} {bc : Bv} (h : PT X c (tT Γ Wx bc)) : PTs X [c] (tT Γ Wx bc) := pts_one h
abbrev Rv := Lo → Sto → Res Unit
def cLoop (s : Src) (tg : Tg) (own : List Nat) (cond : Bv) (body : Rv) (l : Lo) : Nat → Nat → Sto → Res Unit
  | 0, _, _ => .err
  | f + 1, i, st => match s.at st i with
    | none => .err
    | some none => .ok () st
    | some (some w) => match tg w (wipeL l own) st with
      | none => .err
      | some l1 => match cond l1 st with
        | .ok b st1 => if b = true then (match body l1 st1 with | .ok _ st2 => cLoop s tg own cond body l f (i + 1) st2 | _ => .err) else cLoop s tg own cond body l f (i + 1) st1
        | _ => .err
def cApp (elt : Ev) (D : Nat) : Rv := fun l st => match elt l st with
  | .ok y st1 => match st1.c[D]? with | some (.lst us) => if us.length < 1000000 then .ok () (st1.put D (.lst (us ++ [y])) (W.low D y)) else .err | _ => .err
  | _ => .err
def eComp (n : Nat) (own : List Nat) (src : Sv) (tg : Tg) (cond : Bv) (elt : Ev) : Ev := fun l st => (src l st).bind fun s st1 => (cLoop s tg own cond (cApp elt st1.c.length) l n 0 (st1.push (.lst []))).bind fun _ st2 => .ok (.ref st1.c.length) st2
/-- a comprehension's target: what it binds are the block's own names -/
def CT (Γ : Gm) (g : TG) (tg : Tg) (vs : List Nat) : Prop := ∀ μ H l σ w v l' st Q, Sim Γ μ st H → LRep Γ.K μ H l (L2.wipe σ vs) → Rep Γ.K μ H w v → tg w l st = some l' → (∀ σ2, LRep Γ.K μ H l' σ2 → L2.wipe σ2 vs = L2.wipe σ vs → Q σ2 H) → g v (L2.wipe σ vs) H Q
theorem wipe_set {i : Nat} {x : Option V} : ∀ {vs : List Nat} {σ : L2.St}, i ∈ vs → L2.wipe (σ.set i x) vs = L2.wipe σ vs := by
  have key : ∀ {vs : List Nat} {σ : L2.St}, L2.wipe (σ.set i x) vs = L2.wipe σ vs ∨ (i ∉ vs ∧ L2.wipe (σ.set i x) vs = (L2.wipe σ vs).set i x) := by
    intro vs
    induction vs with
    | nil => intro σ; exact .inr ⟨by simp, rfl⟩
    | cons v r ih =>
      intro σ
      unfold L2.wipe
      rcases ih (σ := σ) with e | ⟨h, e⟩
      · exact .inl (by rw [e])
      · rw [e]
        by_cases hv : v = i
        · subst hv; exact .inl (by rw [List.set_set])
        · exact .inr ⟨by simp [h]; exact fun z => hv z.symm, by rw [List.set_comm _ _ (Ne.symm hv)]⟩
  intro vs σ h
  rcases key (vs := vs) (σ := σ) with e | ⟨h', _⟩
  · exact e
  · exact absurd h h'
theorem wipe_wipe : ∀ {vs : List Nat} {σ : L2.St}, L2.wipe (L2.wipe σ vs) vs = L2.wipe σ vs := by
  have key : ∀ (us vs : List Nat) (σ : L2.St), (∀ u ∈ us, u ∈ vs) → L2.wipe (L2.wipe σ us) vs = L2.wipe σ vs := by
    intro us
    induction us with
    | nil => intro vs σ _; rfl
    | cons u r ih =>
      intro vs σ h
      show L2.wipe ((L2.wipe σ r).set u none) vs = _
      rw [wipe_set (h u (by simp)), ih vs σ fun x hx => h x (by simp [hx])]
  intro vs σ
  exact key vs vs σ fun _ h => h
theorem ct_name {i : Nat} {vs : List Nat} (h : i ∈ vs) : CT Γ (gName i) (tgName i) vs := fun μ H l σ w v l' st Q hs hl hr e k => by
  cases e
  exact k _ (hl.set hr i) (by rw [wipe_set h, wipe_wipe])
theorem ct_pair {i j : Nat} {vs : List Nat} (hi : i ∈ vs) (hj : j ∈ vs) : CT Γ (gTup Γ.K 2 (gCons (gName i) (gCons (gName j) gNil))) (fun w l st => match w with | .tup [x, y] => some ((l.set i (some x)).set j (some y)) | _ => none) vs := fun μ H l σ w v l' st Q hs hl hr e k => by
  dsimp only at e
  split at e
  · rename_i x y
    cases e
    cases hr with
    | tup q1 q2 =>
      cases q2 with
      | cons rx t =>
        cases t with
        | cons ry t2 =>
          cases t2
          exact ⟨_, _, rfl, q1, rfl, _, _, rfl, _, _, rfl, rfl, k _ ((hl.set rx i).set ry j) (by rw [wipe_set hj, wipe_set hi, wipe_wipe])⟩
  · cases e
theorem lc_run {own : List (Str × Nat)} {src : Sv} {t : Tg} {g : TG} {bc : Bv} {n : Nat} (hgt : CT Γ g t (own.map (·.2))) (σ : L2.St) (H : Hp) (Q : VK) (h : tE Γ Wx (eComp n (own.map (·.2)) src t bc ea) σ H Q) :
    tLc (tI Γ Wx src) g (tT Γ W0 bc) (tE Γ W0 ea) (own.map (·.2)) σ H Q := by
    obtain ⟨μ, l, st, hs, hl, h⟩ := h
    refine ⟨μ, l, st, hs, hl, ?_⟩
    unfold eComp at h
    cases es : src l st with
    | err => rw [es] at h; exact h
    | exc c p st1 => rw [es] at h; exact h
    | ok s st1 =>
      rw [es] at h
      intro μ1 H1 J e1 s1 hJ D hD
      have h := Post.mono (show Post Γ Wx (Rep Γ.K) μ σ H Q ((cLoop s t (own.map (·.2)) bc (cApp ea st1.c.length) l n 0 (st1.push (.lst []))).bind fun _ st2 => .ok (.ref st1.c.length) st2) from h) e1
      have E : Ext Γ.K μ1 (μ1 ++ [D]) H1 (upd H1 D (.lst [])) := ext_new hD
      have s2 : Sim Γ (μ1 ++ [D]) (st1.push (.lst [])) (upd H1 D (.lst [])) := s1.new hD ⟨[], upd_same, .nil⟩ rfl
      have hd : (μ1 ++ [D])[st1.c.length]? = some D := by rw [← s1.len]; simp
      have h := Post.mono h E
      have hJ := hJ.mono E
      have hl := hl.mono (e1.trans E)
      generalize st1.c.length = d at *
      refine ⟨fun i m H' => ∃ μ' st', Ext Γ.K (μ1 ++ [D]) μ' (upd H1 D (.lst [])) H' ∧ Sim Γ μ' st' H' ∧ Post Γ Wx (Rep Γ.K) μ' σ H' Q ((cLoop s t (own.map (·.2)) bc (cApp ea d) l m i st').bind fun _ st2 => .ok (.ref d) st2), ⟨n, _, _, .refl, s2, h⟩, ?_⟩
      rintro i m H' ⟨μ2, st2, e2, s2', h2⟩
      obtain ⟨go, stop⟩ := hJ μ2 H' st2 e2 s2' i
      cases m with
      | zero => exact h2.elim
      | succ m =>
        unfold cLoop at h2
        cases ea1 : s.at st2 i with
        | none => rw [ea1] at h2; exact h2.elim
        | some oo =>
          cases oo with
          | none =>
            rw [ea1] at h2
            exact .inl ⟨stop ea1, Post.here (show Post Γ Wx (Rep Γ.K) μ2 σ H' Q (.ok (.ref d) st2) from h2) s2' (.ref (e2.pre _ _ hd))⟩
          | some w =>
            rw [ea1] at h2
            obtain ⟨go1, go2⟩ := go w ea1
            refine .inr ⟨go1, fun H3 => ∃ μ' st', Ext Γ.K (μ1 ++ [D]) μ' (upd H1 D (.lst [])) H3 ∧ Sim Γ μ' st' H3 ∧ Post Γ Wx (Rep Γ.K) μ' σ H3 Q ((cLoop s t (own.map (·.2)) bc (cApp ea d) l m (i + 1) st').bind fun _ st2 => .ok (.ref d) st2), fun H3 q => ⟨m, Nat.lt_succ_self _, q⟩, fun v H3 hy => ?_⟩
            obtain ⟨y1, y2, y3⟩ := go2 v H3 hy
            dsimp only at h2
            cases et : t w (wipeL l (own.map Prod.snd)) st2 with
            | none => rw [et] at h2; exact h2.elim
            | some l3 =>
              rw [et] at h2
              dsimp only at h2
              have e3 := e2.trans y1
              have h2 := Post.mono h2 y1
              refine hgt μ2 H3 _ σ w v l3 st2 _ y2 ((hl.mono e3).wipe (own.map Prod.snd)) y3 et fun σ2 lr2 hw => ⟨hw, μ2, l3, st2, y2, lr2, ?_⟩
              cases eb : bc l3 st2 with
              | err => rw [eb] at h2; exact h2.elim
              | exc c p st4 => rw [eb] at h2; exact h2.elim
              | ok bb st4 =>
                rw [eb] at h2
                intro μ4 H4 b' e4 s4 r4
                subst r4
                have h4 := Post.mono h2 e4
                dsimp only at h4
                cases bb with
                | false => exact ⟨μ4, st4, e3.trans e4, s4, h4⟩
                | true =>
                  refine ⟨μ4, l3, st4, s4, lr2.mono e4, ?_⟩
                  have h4 : Post Γ Wx (Rep Γ.K) μ4 σ H4 Q ((match cApp ea d l3 st4 with | .ok _ st2 => cLoop s t (own.map Prod.snd) bc (cApp ea d) l m (i + 1) st2 | _ => Res.err).bind fun _ st2 => .ok (.ref d) st2) := h4
                  unfold cApp at h4
                  cases ey : ea l3 st4 with
                  | err => rw [ey] at h4; exact h4.elim
                  | exc c p st5 => rw [ey] at h4; exact h4.elim
                  | ok y st5 =>
                    rw [ey] at h4
                    intro μ5 H5 yv e5 s5 r5
                    have h5 := Post.mono h4 e5
                    have hd5 := (e3.trans (e4.trans e5)).pre _ _ hd
                    dsimp only at h5
                    cases ec : st5.c[d]? with
                    | none => rw [ec] at h5; exact h5.elim
                    | some cc =>
                      rw [ec] at h5
                      cases cc with
                      | lst us =>
                        obtain ⟨acc, q1, q2⟩ := s5.cell d _ _ ec hd5
                        dsimp only at h5
                        by_cases hlen : us.length < 1000000
                        · rw [if_pos hlen] at h5
                          refine ⟨acc, q1, by rw [← q2.length]; exact Nat.lt_of_lt_of_le hlen (le_line (Nat.le_refl _)), ?_⟩
                          have E5 := ext_wr (K := Γ.K) (μ := μ5) (o := .lst (acc ++ [yv])) q1
                          refine ⟨μ5, _, (e3.trans (e4.trans e5)).trans E5, s5.write (c := .lst (us ++ [y])) (b := W.low d y) ec hd5 q1 rfl rfl ⟨_, upd_same, (q2.snoc r5).mono E5⟩ fun b q => lows_append q (by simp [W.lows]; exact b), Post.mono h5 E5⟩
                        · rw [if_neg hlen] at h5; exact h5.elim
                      | _ => exact h5.elim
/-- [elt for tg in iter if ..] -/
theorem qe_comp {ifs : List Expr} {scope : Scope} {own : List (Str × Nat)} {pos : Pos} {src : Sv} {t : Tg} {g : TG} {bc : Bv} {n : Nat} (hc : X.calm = true) (hN : X.N.Nodup) (hi : PI X tg iter (tI Γ Wx src)) (ok : BlkOk X.N X.env.scope scope own)
    (hg : ∀ (s : Shared) (H : Hp) (C : Addr) (cl : List (Str × Addr)) (fp : List Addr), PG (X.blk s H scope (compEnvC scope cl C X.env) fp) tg g) (hgt : CT Γ g t (own.map (·.2)))
    (ht : ∀ (s : Shared) (H : Hp) (C : Addr) (cl : List (Str × Addr)) (fp : List Addr), PTs (X.blk s H scope (compEnvC scope cl C X.env) fp) ifs (tT Γ W0 bc))
    (he : ∀ (s : Shared) (H : Hp) (C : Addr) (cl : List (Str × Addr)) (fp : List Addr), PE (X.blk s H scope (compEnvC scope cl C X.env) fp) elt (tE Γ W0 ea))
    (hs : ∀ x, foldedSetIterable iter X.env x = pure x := by intro _; rfl) : PE X (.ListComp elt [⟨tg, iter, ifs, 0⟩] scope pos) (tE Γ Wx (eComp n (own.map (·.2)) src t bc ea)) :=
  PE_imp (pe_lc hc hN hi ok hg ht he hs) fun σ H Q h => lc_run hgt σ H Q h
/-- y = [elt for tg in iter if ..] -/
theorem qs_comp {ifs : List Expr} {scope : Scope} {own : List (Str × Nat)} {pos spos py : Pos} {i : Nat} {y : Str} {src : Sv} {t : Tg} {g : TG} {bc : Bv} {n : Nat} (hc : X.calm = true) (hN : X.N.Nodup) (hy : X.N[i]? = some y) (hyl : X.env.scope.names.lookup y = some .local) (hsw : swapsWith (.ListComp elt [⟨tg, iter, ifs, 0⟩] scope pos) (some (.Name y py)) spos.line X.env = pure true) (hi : PI X tg iter (tI Γ Wx src)) (ok : BlkOk X.N X.env.scope scope own)
    (hg : ∀ (s : Shared) (H : Hp) (C : Addr) (cl : List (Str × Addr)) (fp : List Addr), PG (X.blk s H scope (compEnvC scope cl C X.env) fp) tg g) (hgt : CT Γ g t (own.map (·.2)))
    (ht : ∀ (s : Shared) (H : Hp) (C : Addr) (cl : List (Str × Addr)) (fp : List Addr), PTs (X.blk s H scope (compEnvC scope cl C X.env) fp) ifs (tT Γ W0 bc))
    (he : ∀ (s : Shared) (H : Hp) (C : Addr) (cl : List (Str × Addr)) (fp : List Addr), PE (X.blk s H scope (compEnvC scope cl C X.env) fp) elt (tE Γ W0 ea))
    (hs : ∀ x, foldedSetIterable iter X.env x = pure x := by intro _; rfl) : PS X (.Assign [.Name y py] (.ListComp elt [⟨tg, iter, ifs, 0⟩] scope pos) spos) (tS Γ Wx (sSet (tgName i) (eComp n (own.map (·.2)) src t bc ea))) :=
  PS_imp (ps_setLc hc hN hy hyl hsw hi ok hg ht he hs) fun D σ H ⟨μ, l, st, hs, hl, h⟩ => lc_run hgt σ H _ (tG_bindS hs hl h _ fun w st1 μ1 H1 v e1 s1 r1 h1 => h1.here s1 ((hl.mono e1).set r1 i))
end
end RB

set_option Elab.async false
set_option linter.all false
set_option maxRecDepth 100000
set_option maxHeartbeats 4000000
namespace L2
open PySem PySem.Spec PyProof.Rows
section
variable {P : Program} {w : World} {A : Around} {E : Value → Shared → Prop} {z : Shared}
set_option maxHeartbeats 3200000 in
/-- set(list of whole numbers) -/
theorem set_of_listI {l : Addr} {vals : Array Value} (ns : List Int) {Q : Value → Shared → Prop} (calm : A.handled = none) (isl : z.heap.IsList l vals) (are : IntsAre vals.toList ns) (room : ns.length + 1 < scanBound)
    (want : ∀ (h' : Heap) (tk c : Nat), SetR w h' z.heap.objs.size (fun j => decide (j ∈ ns)) c → c ≤ ns.length → (∀ b o, z.heap.get? b = some o → h'.get? b = some o) → Q (.ref z.heap.objs.size) { z with heap := h', toks := tk }) :
    wpAny (model P w) A (call (.type "set") [.ref l]) Q E z := by
  have many : vals.size = ns.length := by
    have q := IntsAre.length are
    rwa [Array.length_toList] at q
  obtain ⟨c, tl, hmro⟩ := F.called_set.mro
  have made := F.called_set.made
  have subs := F.called_set.sub
  refine wpAny_call (codeAny_of_tree ?_)
  show wpAny _ _ (callAny (.type "set") _) _ _ _
  refine wpAny_pure ⟨Code.quiet_builtin _ (by decide +kernel), codeAny_builtin F.entry_type_call ?_⟩
  rw [Around.under_plain (weight_type_call_type "set" [.ref l] []) rfl]
  have nt := F.called_set.notType
  have cc := F.called_set.canCreate
  have ct := F.typeCall_set_1 (.ref l)
  repeat (any_goals (first | assumption | wp_step))
  refine codeAny_mono (code_set_led1 (.ref l) (E := E) (Q₁ := fun obj s₁ => obj = .ref z.heap.objs.size ∧ s₁ = { z with heap := z.heap.push { cls := .type "set", dict := none, data := .set #[] 0 (.fresh 0 0 (!w.params.followText "set-order")) } }) ⟨rfl, rfl⟩) fun r s₁ hr => ?_
  match r, hr with
  | .error e, hr => exact hr
  | .ok .next, hr => exact hr
  | .ok .brk, hr => exact hr
  | .ok .cont, hr => exact hr
  | .ok (.ret obj), hr =>
    obtain ⟨rfl, rfl⟩ := hr
    have stands : (z.heap.push { cls := .type "set", dict := none, data := .set #[] 0 (.fresh 0 0 (!w.params.followText "set-order")) }).get? z.heap.objs.size = some { cls := .type "set", dict := none, data := .set #[] 0 (.fresh 0 0 (!w.params.followText "set-order")) } := Heap.get?_push_size _ rfl
    have typed : Shared.TypeIs { z with heap := z.heap.push { cls := .type "set", dict := none, data := .set #[] 0 (.fresh 0 0 (!w.params.followText "set-order")) } } (.ref z.heap.objs.size) "set" := ⟨_, stands, rfl⟩
    have li := F.called_set.init.lookup
    have bi := F.called_set.init.bind (.ref z.heap.objs.size)
    repeat (any_goals (first | assumption | wp_step))
    refine codeAny_mono (codeAny_call_builtin (R := wants (fun r s₂ => r = .none ∧ ∃ h' tk c, s₂ = { z with heap := h', toks := tk } ∧ SetR w h' z.heap.objs.size (fun j => decide (j ∈ ns)) c ∧ c ≤ ns.length ∧ (∀ b o, z.heap.get? b = some o → h'.get? b = some o)) E) F.called_set.init.plain F.entry_set_init (check_set_init_1 typed ?_)) fun r₂ s₂ hr₂ => ?_
    · obtain ⟨ol, hol, hcl, nl, hdl⟩ := isl
      obtain ⟨oc, od, odt, osl⟩ := ol
      simp only at hcl hdl
      subst hcl; subst hdl
      have there : (z.heap.push { cls := .type "set", dict := none, data := .set #[] 0 (.fresh 0 0 (!w.params.followText "set-order")) }).get? l = some { cls := .type "list", dict := od, data := .seq vals nl, slots := osl } := Heap.get?_push_of_some _ hol
      have s1 := F.sub_list_set
      have s2 := F.sub_list_frozenset
      have s3 : (Value.type "list" == Value.type "dict") = false := by decide
      have is1 : (z.heap.push { cls := .type "set", dict := none, data := .set #[] 0 (.fresh 0 0 (!w.params.followText "set-order")) }).IsList l vals := ⟨_, there, rfl, nl, rfl⟩
      unfold Builtin.«set.__init__» noKeywords Builtin.Frozenset.updateFrom
      generalize hPI : pyIter = PI
      wp_walk
      subst hPI
      refine wpAny_pyIter_list is1 ?_
      refine wpAny_bind (wpAny_runValue ?_)
      have below : l < z.heap.objs.size := Heap.lt_size hol
      have calm3 : A.in1.in1.in1.handled = none := by simp [calm]
      have apart : l ≠ (z.heap.push { cls := .type "set", dict := none, data := .set #[] 0 (.fresh 0 0 (!w.params.followText "set-order")) }).objs.size := by
        rw [Heap.size_push]
        exact Nat.ne_of_lt (Nat.lt_succ_of_lt below)
      have notIn : z.heap.objs.size ∉ [(z.heap.push { cls := .type "set", dict := none, data := .set #[] 0 (.fresh 0 0 (!w.params.followText "set-order")) }).objs.size, l] := by
        rw [Heap.size_push]
        simp only [List.mem_cons, List.mem_singleton, List.not_mem_nil, or_false, not_or]
        exact ⟨Nat.ne_of_lt (Nat.lt_succ_self _), Nat.ne_of_gt below⟩
      have each : ∀ (i : Nat) (v : Value), vals[i]? = some v → ∃ k t, ns[i]? = some k ∧ v = .int k t := fun i v hv => by
        have hi : i < ns.length := by rw [← many]; exact (Array.getElem?_eq_some_iff.mp hv).1
        obtain ⟨t, e⟩ := PyProof.Rows.IntsAre.int_at are i v (by rw [Array.getElem?_toList]; exact hv)
        refine ⟨ns[i], t, List.getElem?_eq_getElem hi, ?_⟩
        rw [e, List.getD_eq_getElem?_getD, List.getElem?_eq_getElem hi] <;> rfl
      refine set_update_ints ((Walks.list calm3 _ l apart vals).toS) z.heap.objs.size notIn ns many room each (vals.size - 0) 0 _ (by omega) (Nat.zero_le _) ⟨⟨_, Heap.get?_push_size _ rfl, rfl, rfl⟩, (is1.push _)⟩ ?first ?last
      case first =>
        have still : ((z.heap.push { cls := .type "set", dict := none, data := .set #[] 0 (.fresh 0 0 (!w.params.followText "set-order")) }).push { cls := .type "list_iterator", data := .fields #[.ref l, .int 0 0] }).get? z.heap.objs.size
            = some { cls := .type "set", dict := none, data := .set #[] 0 (.fresh 0 0 (!w.params.followText "set-order")) } := Heap.get?_push_of_some _ stands
        exact ⟨0, Nat.le_refl 0, setR_new_at still⟩
      case last =>
        intro z2 c2 mv hc2 hS2
        obtain ⟨h2, g2, d2, tk2, os2⟩ := z2
        have eg : g2 = z.gens := mv.gens
        have ed : d2 = z.drawn := mv.drawn
        have eo : os2 = z.os := mv.os
        subst eg; subst ed; subst eo
        show wpAny _ _ _ _ _ _
        refine wpAny_pure ?_
        show wpAny _ _ (ret Value.none) _ _ _
        rw [many] at hc2
        refine wpAny_pure ⟨rfl, h2, tk2, c2, rfl, hS2, hc2, fun b o e => ?_⟩
        have b0 : b < z.heap.objs.size := Heap.lt_size e
        have b1 : b ≠ z.heap.objs.size := Nat.ne_of_lt b0
        have b2 : b ≠ (z.heap.push { cls := .type "set", dict := none, data := .set #[] 0 (.fresh 0 0 (!w.params.followText "set-order")) }).objs.size := by
          rw [Heap.size_push]
          exact Nat.ne_of_lt (Nat.lt_succ_of_lt b0)
        exact mv.heap b o (by simp only [List.mem_cons, List.mem_singleton, List.not_mem_nil, or_false, not_or]; exact ⟨b1, b2⟩) (Heap.get?_push_of_some _ (Heap.get?_push_of_some _ e))
    · match r₂, hr₂ with
      | .error e, hr₂ => exact hr₂
      | .ok .next, hr₂ => exact hr₂.elim
      | .ok .brk, hr₂ => exact hr₂.elim
      | .ok .cont, hr₂ => exact hr₂.elim
      | .ok (.ret r), hr₂ =>
        obtain ⟨rfl, h2, tk, c2, rfl, q1, q2, q3⟩ := hr₂
        repeat (any_goals (first | assumption | wp_step))
        exact want _ _ _ q1 q2 q3
end
end L2

set_option Elab.async false
set_option linter.all false
set_option maxRecDepth 100000
set_option maxHeartbeats 4000000
namespace L2
open PySem PySem.Spec PyProof.Rows
theorem nodup_count {xs ys : List Int} (hx : xs.Nodup) (hy : ys.Nodup) (h : ∀ k, k ∈ xs ↔ k ∈ ys) : xs.length = ys.length :=
  ((List.perm_ext_iff_of_nodup hx hy).mpr h).length_eq
def insU (x : Int) : List Int → List Int
  | [] => [x]
  | y :: r => if x < y then x :: y :: r else if x = y then y :: r else y :: insU x r
/-- the members, rising -/
def setI (ns : List Int) : List Int := ns.foldr insU []
theorem insU_mem (x k : Int) : ∀ l, k ∈ insU x l ↔ k = x ∨ k ∈ l
  | [] => by simp [insU]
  | y :: r => by
    unfold insU
    split
    · simp
    · split
      · rename_i e; subst e; simp
      · simp [insU_mem x k r]
        constructor
        · rintro (h | h | h)
          · exact .inr (.inl h)
          · exact .inl h
          · exact .inr (.inr h)
        · rintro (h | h | h)
          · exact .inr (.inl h)
          · exact .inl h
          · exact .inr (.inr h)
theorem insU_rises (x : Int) : ∀ l : List Int, l.Pairwise (· < ·) → (insU x l).Pairwise (· < ·)
  | [], _ => by simp [insU]
  | y :: r, h => by
    rw [List.pairwise_cons] at h
    unfold insU
    split
    · rename_i hx
      rw [List.pairwise_cons]
      refine ⟨fun z hz => ?_, by rw [List.pairwise_cons]; exact h⟩
      rcases List.mem_cons.mp hz with e | e
      · omega
      · have := h.1 z e; omega
    · split
      · rw [List.pairwise_cons]; exact h
      · rw [List.pairwise_cons]
        refine ⟨fun z hz => ?_, insU_rises x r h.2⟩
        rcases (insU_mem x z r).mp hz with e | e
        · omega
        · exact h.1 z e
theorem setI_mem (k : Int) : ∀ ns, k ∈ setI ns ↔ k ∈ ns
  | [] => by simp [setI]
  | x :: r => by
    show k ∈ insU x (setI r) ↔ _
    rw [insU_mem, setI_mem k r, List.mem_cons]
theorem setI_rises : ∀ ns, (setI ns).Pairwise (· < ·)
  | [] => .nil
  | x :: r => insU_rises x _ (setI_rises r)
theorem rises_nodup {l : List Int} (h : l.Pairwise (· < ·)) : l.Nodup := h.imp fun h => by omega
theorem rises_same : ∀ {l l' : List Int}, l.Pairwise (· < ·) → l'.Pairwise (· < ·) → (∀ k, k ∈ l ↔ k ∈ l') → l = l'
  | [], [], _, _, _ => rfl
  | [], y :: s, _, _, h => absurd ((h y).mpr (by simp)) (by simp)
  | x :: r, [], _, _, h => absurd ((h x).mp (by simp)) (by simp)
  | x :: r, y :: s, h1, h2, h => by
    rw [List.pairwise_cons] at h1 h2
    have e : x = y := by
      rcases List.mem_cons.mp ((h x).mp (by simp)) with e | e
      · exact e
      · rcases List.mem_cons.mp ((h y).mpr (by simp)) with e2 | e2
        · exact e2.symm
        · have := h2.1 x e; have := h1.1 y e2; omega
    subst e
    rw [rises_same h1.2 h2.2 fun k => ?_]
    have hk := h k
    simp only [List.mem_cons] at hk
    constructor
    · intro a
      rcases hk.mp (.inr a) with b | b
      · subst b; have := h1.1 k a; omega
      · exact b
    · intro a
      rcases hk.mpr (.inr a) with b | b
      · subst b; have := h2.1 k a; omega
      · exact b
section
variable {X : Cx}
/-- set(s) of whole numbers -/
def rSetI (K : PySem.W.Frag) (w : World) : List V → Hp → VK → Prop := fun vs H Q => ∃ (a : Addr) (ns : List Int), vs = [.ref a] ∧ (SqL K H a (ns.map V.int) ∨ SqT K H a (ns.map V.int)) ∧ ns.length < 60 ∧ ∀ p, H p = none → Q (.ref p) (upd H p (SetO w p (fun j => decide (j ∈ ns)) (setI ns).length))
theorem card_of {w : World} {h : Heap} {a : Addr} {ns : List Int} {c : Nat} (R : SetR w h a (fun j => decide (j ∈ ns)) c) : c = (setI ns).length := by
  obtain ⟨o, es, ep, t, _, _, _, _, nd, mem, _, _, hn, _⟩ := R
  have e := nodup_count nd (rises_nodup (setI_rises ns)) fun k => by
    rw [setI_mem]
    constructor
    · intro z; exact of_decide_eq_true ((mem k).mpr z)
    · intro z; exact (mem k).mp (decide_eq_true z)
  rw [← e, ← hn]
  simp
theorem cr_setI (hc : X.calm = true) : CallR X (.type "set") (rSetI X.K X.w) := by
  intro ps st σ H xs us Q I r want
  obtain ⟨a, ns, rfl, hs, hl, q⟩ := want
  rw [Vals.ref1 r]
  have fin : ∀ (h2 : Heap) (tk c : Nat), SetR X.w h2 st.heap.objs.size (fun j => decide (j ∈ ns)) c → (∀ b o, st.heap.get? b = some o → h2.get? b = some o) → EP X ps σ Q (.ref st.heap.objs.size) { st with heap := h2, toks := tk } := fun h2 tk c R k => by
    have e := card_of R
    subst e
    have n := I.hok.fresh (Nat.le_refl st.heap.objs.size)
    exact ⟨.ref _, _, I.laid (t' := tk) k (Nat.le_refl _) (setO_new R), rfl, q _ n⟩
  rcases hs with hs | hs
  · obtain ⟨its, rv, pl, hz⟩ := I.list hs
    exact set_of_listI ns (I.ok.hd hc) pl.isList (by simpa using rv.ints) (by unfold scanBound; omega) fun h2 tk c R _ k => fin h2 tk c R k
  · obtain ⟨its, rv, pl, hz⟩ := I.tuple hs
    exact call_set_tupI ns (I.ok.hd hc) pl (by simpa using rv.ints) (by unfold scanBound; omega) fun h2 tk c R _ k => fin h2 tk c R k
/-- len of such a set -/
def rLenSet (w : World) : List V → Hp → VK → Prop := fun vs H Q => ∃ (a : Addr) (S : Int → Bool) (n : Nat), vs = [.ref a] ∧ H a = some (SetO w a S n) ∧ n < 1000 ∧ Q (.int (n : Nat)) H
theorem cr_lenSet : CallR X (.builtin "len") (rLenSet X.w) := by
  intro ps st σ H xs us Q I r want
  obtain ⟨a, S, n, rfl, ha, hn, q⟩ := want
  rw [Vals.ref1 r]
  obtain ⟨o, es, ep, t, ho, hex, hd, _, _, _, _, hf, hz, _⟩ := setO_get I ha
  exact call_len_set ho hex hd hf (by rw [hz]; omega) ⟨.int (n : Nat), H, I.tok _, ⟨_, by rw [hz]⟩, q⟩
end
end L2
namespace RB
open PySem PySem.Spec PyProof.Rows L2
def fSortSet (w : W) (st : Sto) : Res W := match (seqOf st w).bind intsOf with | some ns => if ns.length < 60 then .ok (.ref st.c.length) (st.push (.lst ((setI ns).map .int))) else .err | none => .err
def fLenSet (w : W) (st : Sto) : Res W := match (seqOf st w).bind intsOf with | some ns => if ns.length < 60 then .ok (.int ((setI ns).length : Nat)) st else .err | none => .err
theorem setI_le (ns : List Int) : (setI ns).length ≤ ns.length := by
  induction ns with
  | nil => exact Nat.le_refl _
  | cons x r ih =>
    have key : ∀ l : List Int, (insU x l).length ≤ l.length + 1 := by
      intro l
      induction l with
      | nil => exact Nat.le_refl _
      | cons y s ih2 =>
        unfold insU
        split
        · simp
        · split
          · simp
          · simp; exact ih2
    have := key (setI r)
    show (insU x (setI r)).length ≤ _
    simp
    omega
section
variable {X : Cx} {Γ : Gm} {Wx : WX} {e a b o : Expr} {es : List Expr} {ea eb eo : Ev} {eas : Evs}
theorem seqInts {μ : List Addr} {H : Hp} {st : Sto} {w : W} {v : V} {ns : List Int} (hs : Sim Γ μ st H) (h : (seqOf st w).bind intsOf = some ns) (r : Rep Γ.K μ H w v) : ∃ a, v = .ref a ∧ (SqL Γ.K H a (ns.map V.int) ∨ SqT Γ.K H a (ns.map V.int)) := by
  cases e : seqOf st w with
  | none => rw [e] at h; cases h
  | some ws =>
    rw [e] at h
    obtain ⟨a, xs, rfl, h1, h2⟩ := seqOf_rep hs e r
    have q := ints_rep h h2
    subst q
    exact ⟨a, rfl, h1⟩
theorem qe_sortSet {p p2 q pos : Pos} (hK : X.K = Γ.K) (hc : X.calm = true) (hg : Gl X "sorted") (hm : X.mg "sorted" = none) (hg2 : Gl X "set") (hm2 : X.mg "set" = none) (ha : PE X a (tE Γ Wx ea)) (na : starEach [a] X.env = (false, eval a X.env) :: starEach [] X.env := by rfl)
    (nb : starEach [.Call (.Name "set" p2) [a] [] q] X.env = (false, eval (.Call (.Name "set" p2) [a] [] q) X.env) :: starEach [] X.env := by rfl) : PE X (.Call (.Name "sorted" p) [.Call (.Name "set" p2) [a] [] q] [] pos) (tE Γ Wx (eU fSortSet ea)) :=
  PE_imp (pe_callB (cr_sortedSet hc) hg hm (by decide +kernel) (pa_cons (pe_callTy (cr_setI hc) hg2 hm2 (by decide +kernel) (pa_cons ha pa_nil na) (by decide) (by decide) na rfl) pa_nil nb) (by decide) (by decide) nb rfl) fun σ H Q ⟨μ, l, st, hs, hl, h⟩ => tG_bind hs hl h _ fun w st1 μ1 H1 v e1 s1 r1 h1 => by
    unfold fSortSet at h1
    split at h1
    · rename_i ns en
      split at h1
      · rename_i hlen
        obtain ⟨a, rfl, h2⟩ := seqInts s1 en r1
        rw [hK]
        refine ⟨a, ns, rfl, h2, hlen, fun p hp => ⟨p, _, _, rfl, upd_same, by have := setI_le ns; omega, fun ns' p' so me le hp' => ?_⟩⟩
        have eq := rises_same so (setI_rises ns) fun k => by rw [me, setI_mem]; exact ⟨of_decide_eq_true, decide_eq_true⟩
        subst eq
        have E1 : Ext Γ.K μ1 μ1 H1 (upd H1 p (SetO X.w p (fun j => decide (j ∈ ns)) (setI ns).length)) := ext_upd (.inl hp)
        have s2 := s1.other (o := SetO X.w p (fun j => decide (j ∈ ns)) (setI ns).length) hp
        have E2 : Ext Γ.K μ1 (μ1 ++ [p']) (upd H1 p (SetO X.w p (fun j => decide (j ∈ ns)) (setI ns).length)) (upd (upd H1 p (SetO X.w p (fun j => decide (j ∈ ns)) (setI ns).length)) p' (.lst ((setI ns).map V.int))) := ext_new hp'
        have rr : Reps Γ.K (μ1 ++ [p']) (upd (upd H1 p (SetO X.w p (fun j => decide (j ∈ ns)) (setI ns).length)) p' (.lst ((setI ns).map V.int))) ((setI ns).map W.int) ((setI ns).map V.int) := Reps.of_ints _
        exact h1 _ _ _ (E1.trans E2) (s2.new hp' ⟨_, upd_same, rr⟩ ((Reps.of_ints (K := Γ.K) (μ := μ1) (H := H1) (setI ns)).low (Nat.le_of_eq s1.len))) (.ref (by rw [← s1.len]; simp))
      · exact h1.elim
    · exact h1.elim
theorem qe_lenSet {p p2 q pos : Pos} (hK : X.K = Γ.K) (hc : X.calm = true) (hg : Gl X "len") (hm : X.mg "len" = none) (hg2 : Gl X "set") (hm2 : X.mg "set" = none) (ha : PE X a (tE Γ Wx ea)) (na : starEach [a] X.env = (false, eval a X.env) :: starEach [] X.env := by rfl)
    (nb : starEach [.Call (.Name "set" p2) [a] [] q] X.env = (false, eval (.Call (.Name "set" p2) [a] [] q) X.env) :: starEach [] X.env := by rfl) : PE X (.Call (.Name "len" p) [.Call (.Name "set" p2) [a] [] q] [] pos) (tE Γ Wx (eU fLenSet ea)) :=
  PE_imp (pe_callB cr_lenSet hg hm (by decide +kernel) (pa_cons (pe_callTy (cr_setI hc) hg2 hm2 (by decide +kernel) (pa_cons ha pa_nil na) (by decide) (by decide) na rfl) pa_nil nb) (by decide) (by decide) nb rfl) fun σ H Q ⟨μ, l, st, hs, hl, h⟩ => tG_bind hs hl h _ fun w st1 μ1 H1 v e1 s1 r1 h1 => by
    unfold fLenSet at h1
    split at h1
    · rename_i ns en
      split at h1
      · rename_i hlen
        obtain ⟨a, rfl, h2⟩ := seqInts s1 en r1
        rw [hK]
        refine ⟨a, ns, rfl, h2, hlen, fun p hp => ⟨p, _, _, rfl, upd_same, by have := setI_le ns; omega, ?_⟩⟩
        exact h1 _ _ _ (ext_upd (.inl hp)) (s1.other hp) (.int _)
      · exact h1.elim
    · exact h1.elim
end
end RB

set_option Elab.async false
set_option linter.all false
set_option maxRecDepth 100000
set_option maxHeartbeats 4000000
namespace PySem
namespace ErrX
open PySem.W PySem.Calls PyProof.Rows PySem.HandSPX
abbrev exTail : List Value := [.type "Exception", .type "BaseException", .type "object"]
/-- own classes, then Exception's mro -/
def refsEx : List Value → Bool
  | .ref _ :: r => refsEx r
  | l => l == exTail
theorem refsEx_two : ∀ l : List Value, refsEx l = true → (∃ c r, l = .ref c :: r ∧ refsEx r = true) ∨ l = exTail := fun l e => by
  unfold refsEx at e
  split at e
  · exact .inl ⟨_, _, rfl, e⟩
  · exact .inr (beq_iff_eq.mp e)
theorem refsEx_pass (self : Value) (l : List Value) : refsEx l = true → refuseLoop self "__setattr__" l = pure () := by
  induction l with
  | nil => intro e; exact absurd e (by decide)
  | cons a r ih =>
    intro e
    rcases refsEx_two (a :: r) e with ⟨c, r', q, h⟩ | q
    · injection q with q1 q2
      subst q1 q2
      rw [refuseLoop_ref]
      exact ih h
    · rw [q]
      exact F.store_Exception.passes self
theorem refsEx_has (X : String) (l : List Value) : refsEx l = true → l.contains (.type X) = exTail.contains (.type X) := by
  induction l with
  | nil => intro e; exact absurd e (by decide)
  | cons a r ih =>
    intro e
    rcases refsEx_two (a :: r) e with ⟨c, r', q, h⟩ | q
    · injection q with q1 q2
      subst q1 q2
      rw [List.contains_cons, ih h]
      rfl
    · rw [q]
theorem refsEx_some {l : List Value} (e : refsEx l = true) : l.isEmpty = false := by
  cases l with
  | nil => exact absurd e (by decide)
  | cons _ _ => rfl
section
open Builtin Builtin.ObjectAttr
variable {prog : Program} {w : World} {A : Around} {R : Result → Shared → Prop} {hp : Heap} {g : Array GenState} {d : Drawn} {t : Nat} {os : OsState}
/-- self.name = v on such an error that has no dict yet -/
theorem put_first {K : Frag} {name : Str} {tk : Tok} {v : Value} {x C : Addr} {fv : Array Value} {cd : ClassData}
    (X : K.In hp) (hx : hp.get? x = some { cls := .ref C, data := .fields fv }) (hcd : clsIn K C = some cd) (hm : refsEx cd.mro = true) (hh : cd.hasDict = true) (ha : findIn K (.ref C) name = some none)
    (want : ∀ h' tk' dx, (∀ b o, b ≠ x → hp.get? b = some o → h'.get? b = some o) → hp.objs.size ≤ dx → dx ≠ x → h'.get? x = some { cls := .ref C, dict := some dx, data := .fields fv } → h'.Ns1 dx (fun y => if y = name then some v else none) → R (.ok (.ret .none)) ⟨h', g, d, tk', os⟩) :
    codeAny (model prog w) A (.call (.builtin "object.__setattr__") ⟨[.ref x, .str name tk, v], []⟩) R ⟨hp, g, d, t, os⟩ := by
  have inst : InstAt hp x { cls := .ref C, data := .fields fv } C none := ⟨hx, rfl, rfl, trivial⟩
  have S0 := F.store_object
  have some_ := refsEx_some hm
  have obj : cd.mro.contains (.type "object") = true := (refsEx_has "object" _ hm).trans (by decide +kernel)
  have apart : x ≠ hp.objs.size := Nat.ne_of_lt (Heap.lt_size hx)
  have isObj : Looks (model prog w) hp (isInstance (.ref x) (.type "object")) true := inst.type.andThen (looks_mroIn X (by unfold mroIn; rw [hcd, Option.bind_some, if_neg (by rw [some_]; decide), obj]))
  refine codeAny_call_builtin S0.slot.plain S0.entry (@check_slot (model prog w) _ _ ⟨hp, g, d, t, os⟩ "object.__setattr__" "object" "__setattr__" (.ref x) [.str name tk, v] [] _ S0.kind S0.split isObj (S0.args (.ref x) (.str name tk) v) ?_)
  have mro_ : Looks (model prog w) hp (mroOf (.ref C)) cd.mro := (looks_clsIn X hcd).andThen .now
  have none_ : Looks (model prog w) hp (storeTaker? none) none := .now
  have data_ : Looks (model prog w) hp (classData C) cd := looks_clsIn X hcd
  rw [osa_eq, refuse_eq]
  refine wpAny_bind (wpAny_bind (inst.type.at (wpAny_bind (mro_.at ?_))))
  rw [refsEx_pass _ _ hm]
  refine wpAny_pure (wpAny_bind (inst.type.at (wpAny_bind ((looks_findIn X ha).at (wpAny_bind (none_.at ?_))))))
  show wpAny _ _ (storeInOwnDict (.ref x) (.ref C) (.str name tk) name v false) _ _ _
  obtain ⟨nm, bs, mro, ns, qn, hd, sn, sb, ab, col, del⟩ := cd
  dsimp only at hh
  subst hh
  unfold storeInOwnDict ownDictForStores
  repeat (first | with_reducible refine store_in_new ?_ ?_ | with_reducible refine wpAny_loadPart_at hx ?_ | with_reducible refine data_.at ?_ | wp_step)
  · exact ⟨_, #[], _, (Heap.get?_update_ne _ _ _ _ apart.symm).trans (Heap.get?_push_at rfl rfl), rfl, fun e he => absurd he (by simp), fun _ => rfl⟩
  · intro h' tk' hn' hs
    have keep1 : (hp.push { cls := .type "dict", data := .dict #[] }).get? x = some { cls := .ref C, data := .fields fv } := Heap.get?_push_of_some _ hx
    refine want h' tk' hp.objs.size (fun b o hb ho => ?_) (Nat.le_refl _) apart.symm ?_ hn'
    · exact (hs.2 b (Nat.ne_of_lt (Heap.lt_size ho))).trans ((Heap.get?_update_ne _ _ _ _ hb).trans (Heap.get?_push_of_some _ ho))
    · exact (hs.2 x apart).trans (Heap.get?_update_self _ keep1 rfl)
end
theorem ld_own {M : Model} {s : Shared} {name : Str} {scope : Scope} {L a : Addr} {cd : Value} {m : Str → Option Value} {x : Str} {pos : Pos} {v : Value} {Q : Value → Shared → Prop} {A : Around} {E : Value → Shared → Prop} (hn : s.heap.Ns L m) (hv : m x = some v) (h : Q v s)
    (hk : scope.kind = .function := by rfl) (hl : (envOfC name scope L a cd).kindOf x = some .local := by rfl) (hd : (x == ("__debug__" : Str)) = false := by decide) :
    wpAny M A (eval (.Name x pos) (envOfC name scope L a cd)) Q E s := wpAny_Name (wpAny_loadName_local hk hl hn hv h) hd
/-- what __init__ leaves of a fresh error at x -/
structure InitDone (h h' : Heap) (x C dx t1 : Addr) (f : Str) (v : Value) : Prop where
  keep : ∀ b o, b ≠ x → h.get? b = some o → h'.get? b = some o
  obj : h'.get? x = some { cls := .ref C, dict := some dx, data := .fields #[.ref t1, .none, .none, .none, .bool false, .none] }
  dbig : h.objs.size ≤ dx
  dne : dx ≠ x
  ns : h'.Ns1 dx (fun y => if y = f then some v else none)
/-- a made error -/
structure MadeIs (h h' : Heap) (e C d : Addr) (f : Str) (v : Value) : Prop where
  keep : ∀ b o, h.get? b = some o → h'.get? b = some o
  new : h.objs.size ≤ e
  obj : ∃ oe vs, h'.get? e = some oe ∧ oe.cls = .ref C ∧ oe.dict = some d ∧ oe.data = .fields vs ∧ vs[1]? = some .none
  dbig : h.objs.size ≤ d
  dne : d ≠ e
  ns : h'.Ns1 d (fun y => if y = f then some v else none)
theorem sz1 (v : Value) : [v].length ≤ sizeLine := by
  rw [sizeLine_eq]
  exact (by decide : 1 ≤ 16777216)
/-- what the written part says of the class at C: its errors keep one argument under the name f -/
structure ErrC (K : Frag) (C : Addr) (f : Str) : Prop where

  cls : ∃ nm q N bs bm sn sub ab col dd k0 k1 k2 k3 k5, K.lookup C = some (excClassObj nm q C N bs bm true sn sub ab col dd k0 k1 k2 k3 k5 "Exception.__new__") ∧ refsEx bm = true
  sa : findIn K (.ref C) "__setattr__" = some (some (.builtin "object.__setattr__"))
  ga : findIn K (.ref C) "__getattribute__" = some (some (.builtin "BaseException.__getattribute__"))
  gg : findIn K (.ref C) "__getattr__" = some none
  noN : findIn K (.ref C) f = some none
  kC : keepIn K (.ref C) = true
  exC : subIn K (.ref C) (.type "BaseException") = some true
  tyC : typeIn K (.ref C) = some (.type "type")
  hdC : hasDictIn K C = true
  /-- its __init__ runs -/
  ini : ∃ fI, findIn K (.ref C) "__init__" = some (some (.ref fI)) ∧ typeIn K (.ref fI) = some (.type "function") ∧
    ∀ (prog : Program) (w : World) (A : Around) (R : Result → Shared → Prop) (s : Shared) (x t0 : Addr) (v : Value), K.In s.heap → s.heap.NoLimit → s.heap.get? x = some (excO C t0) → K.lookup x = none → A.depth < recursionLimit →
      (∀ h' tk dx, InitDone s.heap h' x C dx t0 f v → R (.ok (.ret .none)) { s with heap := h', toks := tk }) → codeAny (model prog w) A (.call (.ref fI) ⟨[.ref x, v], []⟩) R s

def iA_at (p1 p2 : Pos) : Arguments := { posonlyargs := [], args := [{ arg := "self", annotation := none, pos := p1 }, { arg := "at", annotation := none, pos := p2 }], vararg := none, kwonlyargs := [], kw_defaults := [], kwarg := none, defaults := [] }
def iB_at (q1 q2 q3 q4 : Pos) : List Stmt := [.Assign [.Attribute (.Name "self" q1) "at" q2] (.Name "at" q3) q4]
def iS_at : Scope := { kind := .function, names := [(PySem.Str.ofString "self", .local), (PySem.Str.ofString "at", .local)], isGenerator := false, isCoroutine := false, more := [] }
theorem ini_at {K : Frag} {C fI : Addr} {qual : Str} {oc doc pm cdv ct : Value} {od an : Option Addr} {osl : Array (Option Value)} {p1 p2 q1 q2 q3 q4 : Pos}
    (fn : K.lookup fI = some ⟨oc, od, .func (fnOf "__init__" qual (iA_at p1 p2) (iB_at q1 q2 q3 q4) iS_at .none .none doc pm an cdv ct), osl⟩) (hcd : codeIn K cdv qual = true)
    (cls : ∃ nm q N bs bm sn sub ab col dd k0 k1 k2 k3 k5, K.lookup C = some (excClassObj nm q C N bs bm true sn sub ab col dd k0 k1 k2 k3 k5 "Exception.__new__") ∧ refsEx bm = true)
    (sa : findIn K (.ref C) "__setattr__" = some (some (.builtin "object.__setattr__"))) (noN : findIn K (.ref C) "at" = some none)
    {prog : Program} {w : World} {A : Around} {R : Result → Shared → Prop} {s : Shared} {x t0 : Addr} {v : Value} (X : K.In s.heap) (hlim : s.heap.NoLimit) (hx : s.heap.get? x = some (excO C t0)) (hnx : K.lookup x = none) (room : A.depth < recursionLimit)
    (want : ∀ h' tk dx, InitDone s.heap h' x C dx t0 "at" v → R (.ok (.ret .none)) { s with heap := h', toks := tk }) :
    codeAny (model prog w) A (.call (.ref fI) ⟨[.ref x, v], []⟩) R s := by
  obtain ⟨nm, q, N, bs, bm, sn, sub, ab, col, dd, k0, k1, k2, k3, k5, hC, hbm⟩ := cls
  have hcl : clsIn K C = some { name := nm, bases := bs, mro := .ref C :: bm, ns := N, qualname := q, hasDict := true, slotNames := sn, subclasses := sub, abstract := ab, collection := col, hasDel := false } := by
    unfold clsIn
    rw [hC]
    all_goals rfl
  refine Att.call_fn (binds := [("self", .ref x), ("at", v)]) X hlim fn hcd room (BindsTo.of_eq (by first | rfl | with_unfolding_all rfl)) (by first | rfl | decide | with_unfolding_all rfl) (fun s₁ IC => ?_) rfl rfl rfl
  obtain ⟨h₁, tk₁, rfl⟩ := IC.toInCall.same
  have k : ∀ b o, s.heap.get? b = some o → h₁.get? b = some o := IC.toInCall.keep
  have hn := IC.toInCall.ns
  have X₁ : K.In h₁ := X.keeps k
  have hx₁ := k _ _ hx
  show wpAny _ _ (execs _ _) _ _ _
  refine wpAny_execs_cons (plainObj_wpAny_Assign_Attribute ?_)
  refine ld_own (v := v) hn (by first | rfl | with_unfolding_all rfl | kernel_rfl) (ld_own (v := .ref x) hn (by first | rfl | with_unfolding_all rfl | kernel_rfl) ?_)
  refine set_plain X₁ (ox := excO C t0) (od := none) ⟨hx₁, rfl, rfl, trivial⟩ sa ?_
  refine put_first X₁ hx₁ hcl (show refsEx (.ref C :: bm) = true from hbm) rfl noN (fun h₃ tk₃ dx k₃ dn dne hx₃ hn₃ => ?_)
  show wpAny _ _ (execs _ _) _ _ _
  have z : s.heap.objs.size < h₁.objs.size := hn.lt
  exact wpAny_execs_nil (want h₃ tk₃ dx ⟨fun b o hb e => k₃ b o hb (k b o e), hx₃, Nat.le_of_lt (Nat.lt_of_lt_of_le z dn), dne, hn₃⟩)

def iA_word (p1 p2 : Pos) : Arguments := { posonlyargs := [], args := [{ arg := "self", annotation := none, pos := p1 }, { arg := "word", annotation := none, pos := p2 }], vararg := none, kwonlyargs := [], kw_defaults := [], kwarg := none, defaults := [] }
def iB_word (q1 q2 q3 q4 : Pos) : List Stmt := [.Assign [.Attribute (.Name "self" q1) "word" q2] (.Name "word" q3) q4]
def iS_word : Scope := { kind := .function, names := [(PySem.Str.ofString "self", .local), (PySem.Str.ofString "word", .local)], isGenerator := false, isCoroutine := false, more := [] }
theorem ini_word {K : Frag} {C fI : Addr} {qual : Str} {oc doc pm cdv ct : Value} {od an : Option Addr} {osl : Array (Option Value)} {p1 p2 q1 q2 q3 q4 : Pos}
    (fn : K.lookup fI = some ⟨oc, od, .func (fnOf "__init__" qual (iA_word p1 p2) (iB_word q1 q2 q3 q4) iS_word .none .none doc pm an cdv ct), osl⟩) (hcd : codeIn K cdv qual = true)
    (cls : ∃ nm q N bs bm sn sub ab col dd k0 k1 k2 k3 k5, K.lookup C = some (excClassObj nm q C N bs bm true sn sub ab col dd k0 k1 k2 k3 k5 "Exception.__new__") ∧ refsEx bm = true)
    (sa : findIn K (.ref C) "__setattr__" = some (some (.builtin "object.__setattr__"))) (noN : findIn K (.ref C) "word" = some none)
    {prog : Program} {w : World} {A : Around} {R : Result → Shared → Prop} {s : Shared} {x t0 : Addr} {v : Value} (X : K.In s.heap) (hlim : s.heap.NoLimit) (hx : s.heap.get? x = some (excO C t0)) (hnx : K.lookup x = none) (room : A.depth < recursionLimit)
    (want : ∀ h' tk dx, InitDone s.heap h' x C dx t0 "word" v → R (.ok (.ret .none)) { s with heap := h', toks := tk }) :
    codeAny (model prog w) A (.call (.ref fI) ⟨[.ref x, v], []⟩) R s := by
  obtain ⟨nm, q, N, bs, bm, sn, sub, ab, col, dd, k0, k1, k2, k3, k5, hC, hbm⟩ := cls
  have hcl : clsIn K C = some { name := nm, bases := bs, mro := .ref C :: bm, ns := N, qualname := q, hasDict := true, slotNames := sn, subclasses := sub, abstract := ab, collection := col, hasDel := false } := by
    unfold clsIn
    rw [hC]
    all_goals rfl
  refine Att.call_fn (binds := [("self", .ref x), ("word", v)]) X hlim fn hcd room (BindsTo.of_eq (by first | rfl | with_unfolding_all rfl)) (by first | rfl | decide | with_unfolding_all rfl) (fun s₁ IC => ?_) rfl rfl rfl
  obtain ⟨h₁, tk₁, rfl⟩ := IC.toInCall.same
  have k : ∀ b o, s.heap.get? b = some o → h₁.get? b = some o := IC.toInCall.keep
  have hn := IC.toInCall.ns
  have X₁ : K.In h₁ := X.keeps k
  have hx₁ := k _ _ hx
  show wpAny _ _ (execs _ _) _ _ _
  refine wpAny_execs_cons (plainObj_wpAny_Assign_Attribute ?_)
  refine ld_own (v := v) hn (by first | rfl | with_unfolding_all rfl | kernel_rfl) (ld_own (v := .ref x) hn (by first | rfl | with_unfolding_all rfl | kernel_rfl) ?_)
  refine set_plain X₁ (ox := excO C t0) (od := none) ⟨hx₁, rfl, rfl, trivial⟩ sa ?_
  refine put_first X₁ hx₁ hcl (show refsEx (.ref C :: bm) = true from hbm) rfl noN (fun h₃ tk₃ dx k₃ dn dne hx₃ hn₃ => ?_)
  show wpAny _ _ (execs _ _) _ _ _
  have z : s.heap.objs.size < h₁.objs.size := hn.lt
  exact wpAny_execs_nil (want h₃ tk₃ dx ⟨fun b o hb e => k₃ b o hb (k b o e), hx₃, Nat.le_of_lt (Nat.lt_of_lt_of_le z dn), dne, hn₃⟩)

section
variable {prog : Program} {w : World} {A : Around} {R : Result → Shared → Prop} {s : Shared} {K : Frag} {C : Addr} {f : Str}
theorem made_err (T : ErrC K C f) {v : Value} (X : K.In s.heap) (hlim : s.heap.NoLimit) (room : A.depth + 1 < recursionLimit)
    (want : ∀ h' tk e d, MadeIs s.heap h' e C d f v → R (.ok (.ret (.ref e))) { s with heap := h', toks := tk }) :
    codeAny (model prog w) A (.call (.ref C) ⟨[v], []⟩) R s := by
  obtain ⟨nm, q, N, bs, bm, sn, sub, ab, col, dd, k0, k1, k2, k3, k5, hC, hbm⟩ := T.cls
  obtain ⟨fI, iC, tI, run⟩ := T.ini
  obtain ⟨hp, g, dr, tk, os⟩ := s
  have k : ∀ b o, hp.get? b = some o → ((hp.push (kdv_tup [v])).push (excO C hp.objs.size)).get? b = some o := fun b o e => Heap.get?_push_of_some _ (Heap.get?_push_of_some _ e)
  have hget : ((hp.push (kdv_tup [v])).push (excO C hp.objs.size)).get? (hp.objs.size + 1) = some (excO C hp.objs.size) := by heap_get
  have fresh : K.lookup (hp.objs.size + 1) = none := by
    cases e : K.lookup (hp.objs.size + 1) with
    | none => rfl
    | some o => exact absurd (Nat.lt_of_succ_lt (Heap.lt_size (X _ _ e))) (Nat.lt_irrefl _)
  refine call_own F.excBase_Exception (fun X => refsEx_has X bm hbm) (X _ _ hC) (looks_findIn X iC) (fun self => bind_fn X self tI) (sz1 v) ?_
  refine run prog w _ _ ⟨(hp.push (kdv_tup [v])).push (excO C hp.objs.size), g, dr, tk, os⟩ _ _ v (X.keeps k) (hlim.keeps k) hget fresh room fun h' tk' dx ⟨k', hx, dn, dne, hns⟩ => ?_
  have old : ∀ b o, hp.get? b = some o → h'.get? b = some o := fun b o e => k' b o (Nat.ne_of_lt (Nat.lt_succ_of_lt (Heap.lt_size e))) (k b o e)
  have z : hp.objs.size + 1 + 1 ≤ dx := by
    have q := dn
    simp only [Heap.size_push] at q
    exact q
  exact ⟨rfl, want h' tk' (hp.objs.size + 1) dx ⟨old, Nat.le_succ _, ⟨_, _, hx, rfl, rfl, rfl, rfl⟩, Nat.le_trans (Nat.le_trans (Nat.le_succ _) (Nat.le_succ _)) z, dne, hns⟩⟩
end
end ErrX
end PySem
namespace L2
open PySem PySem.Spec PyProof.Rows
theorem relO_one {v : V} {v' : Value} {g : Str} (r : RelV v v') (f : Str) : RelO (List.lookup f [(g, v)]) (if f = g then some v' else none) := by
  by_cases hw : f = g
  · subst hw
    rw [if_pos rfl]
    have q : List.lookup f [(f, v)] = some v := by simp [List.lookup]
    rw [q]
    exact r
  · rw [if_neg hw]
    have qw : (f == g) = false := by simpa using hw
    have q2 : List.lookup f [(g, v)] = none := by simp [List.lookup, qw]
    rw [q2]
    trivial
section
variable {X : Cx} {C : Addr} {f : Str}
/-- C(e), an error in the making -/
def tMkErr (C : Addr) (f : Str) (ta : TA) : L2.St → Hp → XK → Prop := fun σ H Q => ta σ H fun vs H1 => ∃ v, vs = [v] ∧ ∀ d, H1 d = none → Q (.ref C) (some d) (upd H1 d (.xd [(f, v)]))
theorem pmk_err {x : Str} {a : Expr} {ta : TA} {p pos : Pos} {k : Nat} (T : PySem.ErrX.ErrC X.K C f) (hm : X.mg x = some (.ref C)) (hr : Room k X.A) (ha : PA X [a] ta) (hg : Gl X x) (hdb : (x == ("__debug__" : Str)) = false := by decide)
    (he : starEach (a :: []) X.env = (false, eval a X.env) :: starEach [] X.env := by rfl) (hpl : (backTo pos (starEach [] X.env)).any (·.1) = false := by rfl) :
    PMk X (.Call (.Name x p) [a] [] pos) (tMkErr C f ta) := by
  intro pins s σ H Q I h
  refine wpAny_Call_Name_kw (ld_glob I hg hm ?_ hdb)
  refine PySem.W.callWith_K (h₀ := X.base) I.ok.mod.kin T.kC (thn (ha.run pos pins s σ H _ I h) fun us s1 hh => ?_) he hpl
  obtain ⟨vs, H1, I1, r1, v, ev, q1⟩ := hh
  subst ev
  refine ⟨I1.kIn, ?_⟩
  cases r1 with
  | cons rv rn =>
    rename_i v' us'
    cases rn
    show wpAny _ _ (call (.ref C) [v']) _ _ _
    have hlim := I1.nolimit
    obtain ⟨hp, g, dr, tk, os⟩ := s1
    refine wpAny_call (PySem.ErrX.made_err T I1.kIn hlim (by have := hr.dp; omega) fun h' tk' e d M => ?_)
    show MkP X pins σ Q (.ref e) ⟨h', g, dr, tk', os⟩
    obtain ⟨oe, fv, hoe, hc, hd, hdat, h1⟩ := M.obj
    have hns := M.ns
    obtain ⟨G', g1, g2⟩ := restrict h' fun b => decide (b ≠ e)
    have gk : ∀ b, b ≠ e → G'.get? b = h'.get? b := fun b hb => g1 b (decide_eq_true hb)
    have ge : G'.get? e = none := g2 e (by simp)
    have old : ∀ b o, hp.get? b = some o → G'.get? b = some o := fun b o q => (gk b (Nat.ne_of_lt (Nat.lt_of_lt_of_le (Heap.lt_size q) M.new))).trans (M.keep b o q)
    have ob : ObjOk X.prog X.w (upd H1 d (.xd [(f, v)])) G' d (.xd [(f, v)]) := ⟨_, hns.at (fun o q => (gk d M.dne).trans q), fun f => relO_one rv f⟩
    have J : Inv X pins σ (upd H1 d (.xd [(f, v)])) ⟨G', g, dr, tk', os⟩ := I1.laid (t' := tk') old M.dbig ob
    refine ⟨e, oe, fv, ⟨G', g, dr, tk', os⟩, _, .ref C, some d, rfl, J, fun b o q => ?_, ge, hoe, ⟨hc, hd⟩, hdat, h1, ?_, rfl, I1.bare, raises_own T.exC T.tyC, q1 d (I1.hok.fresh M.dbig)⟩
    · by_cases hb : b = e
      · have q' : G'.get? b = some o := q
        rw [hb, ge] at q'; cases q'
      · exact (gk b hb).symm.trans q
    · rw [upd_ne (Ne.symm M.dne)]
      exact I1.hok.fresh M.new
/-- e.f, e the error that the suite holds (at a; its class cls, its dict d) -/
def tErrF (C : Addr) (f : Str) (a : Addr) (cls : Value) (d : Option Addr) (te : TE) : TE := fun σ H Q => te σ H fun x H1 => x = .ref a ∧ cls = .ref C ∧ ∃ (dd : Addr) (v : V), d = some dd ∧ H1 dd = some (.xd [(f, v)]) ∧ Q v H1
theorem pe_errF {a : Addr} {oe : Obj} {cls : Value} {d : Option Addr} {pn : List (Addr × Obj)} {e : Expr} {te : TE} {pos : Pos} (T : PySem.ErrX.ErrC X.K C f) (hz : Zc cls d oe) (hf : ∃ vs, oe.data = .fields vs) (he : PE (X.suite a ((a, oe) :: pn)) e te)
    (hb : attributeBase e f X.env (eval e X.env) = eval e X.env := by rfl) :
    PE (X.suite a ((a, oe) :: pn)) (.Attribute e f pos) (tErrF C f a cls d te) := by
  refine ⟨fun pins s σ H Q I h => ?_⟩
  refine attr_of hb (thn (he.run pins s σ H _ I h) fun u s1 hh => ?_)
  obtain ⟨x, H1, I1, rx, ex, ec, dd, v, ed, ea, q⟩ := hh
  subst ex
  obtain rfl : u = Value.ref a := rx
  subst ec
  subst ed
  obtain ⟨ha, _⟩ := I1.pin (a, oe) (List.mem_append_left _ List.mem_cons_self)
  obtain ⟨vs, hd⟩ := hf
  have hx : ObjOk X.prog X.w H1 s1.heap dd (.xd [(f, v)]) := I1.hok dd _ ea
  obtain ⟨mA, hns, hr⟩ := hx
  obtain ⟨od, ho, hl⟩ := lookIn_ns hns
  have l : List.lookup f [(f, v)] = some v := by simp [List.lookup]
  obtain ⟨u, hu, ru⟩ := RelO.some_of (v := v) (o := mA f) (by rw [← l]; exact hr f)
  have J : PySem.W.InstAt s1.heap a oe C (some od) := ⟨ha, hz.1, by unfold PySem.W.notCls; rw [hd] <;> rfl, by rw [hz.2]; exact ho⟩
  exact HandSPX.exc_get I1.kIn J T.ga T.gg T.exC (PySem.W.findObj_own T.hdC T.noN rfl (by rw [hl, hu])) (handed_of ru) ⟨v, H1, I1.tok _, ru, q⟩
end
end L2
namespace RB
open PySem PySem.Spec PyProof.Rows L2
section
variable {X : Cx} {Γ : Gm} {Wx : WX} {e a : Expr} {es : List Expr} {ea : Ev} {eas : Evs}
def sRaise (c : Nat) (a : Evs) : Sx := fun l st => xs (a l st) l fun ws st1 => match ws with | [w] => .exc c w l st1 | _ => .err
/-- raise C(e) -/
theorem qs_raise {c : Nat} {x : Str} {p pos pos2 : Pos} {k : Nat} (hK : X.K = Γ.K) (hc : X.calm = true) (T : PySem.ErrX.ErrC Γ.K (Γ.ec c) (Γ.fld c)) (hm : X.mg x = some (.ref (Γ.ec c))) (hr : Room k X.A) (tk : Takes X Wx) (hg : Gl X x) (ha : PA X [a] (tA Γ Wx eas))
    (hdb : (x == ("__debug__" : Str)) = false := by decide) (he : starEach (a :: []) X.env = (false, eval a X.env) :: starEach [] X.env := by rfl) (hpl : (backTo pos (starEach [] X.env)).any (·.1) = false := by rfl) : PS X (.Raise (some (.Call (.Name x p) [a] [] pos)) none pos2) (tS Γ Wx (sRaise c eas)) := by
  rw [← hK] at T
  exact PS_imp (ps_raise hc tk (pmk_err T hm hr ha hg hdb he hpl)) fun D σ H ⟨μ, l, st, hs, hl, h⟩ => tG_bindS hs hl h _ fun ws st1 μ1 H1 vs e1 s1 r1 h1 => by
    split at h1
    · rename_i w
      cases r1 with
      | @cons _ vv _ _ r t =>
        cases t
        refine ⟨_, rfl, fun d hd => ?_⟩
        have E : Ext Γ.K μ1 μ1 H1 (upd H1 d (.xd [(Γ.fld c, vv)])) := ext_upd (.inl hd)
        exact h1 _ _ _ _ _ E (s1.other hd) (hl.mono (e1.trans E)) (r.mono E) upd_same
    · exact h1.elim
/-- try: .. except X as n: return g(n.f); is: which of the classes X takes -/
def sTry (is : Nat → Option Bool) (g : W → W) (body : Sx) : Sx := fun l st => match body l st with
  | .exc c p l1 st1 => match is c with | some true => .rt (g p) st1 | some false => .exc c p l1 st1 | none => .err
  | r => r
/-- a suite that hands back what it makes of the error's field -/
def SuiteG (Γ : Gm) (X : Cx) (i : Nat) (f : Str) (g : W → W) (suite : List Stmt) : Prop := ∀ (k : Nat), Γ.fld k = f → PySem.ErrX.ErrC Γ.K (Γ.ec k) f → ∀ (a : Addr) (oe : Obj) (cls : Value) (d : Option Addr) (pn : List (Addr × Obj)), Zc cls d oe → (∃ vs, oe.data = .fields vs) →
  PSs (X.suite a ((a, oe) :: pn)) suite (fun D σ H => σ[i]? = some (some (.ref a)) ∧ cls = .ref (Γ.ec k) ∧ ∃ dd v μ st p, d = some dd ∧ H dd = some (.xd [(f, v)]) ∧ Sim Γ μ st H ∧ Rep Γ.K μ H p v ∧ ∀ μ' H' u, Ext Γ.K μ μ' H H' → Sim Γ μ' st H' → Rep Γ.K μ' H' (g p) u → D.rt u H')
theorem suite_field {n : Str} {i : Nat} {f : Str} {p1 p2 p3 : Pos} (hK : X.K = Γ.K) (hN : X.N[i]? = some n := by rfl) (hv : Vis X.env.scope n := by first | exact Or.inl rfl | exact Or.inr (Or.inl rfl) | exact Or.inr (Or.inr rfl)) (hd : (n == ("__debug__" : Str)) = false := by decide)
    (hcd : (n == ("__classdict__" : Str)) = false := by decide) : SuiteG Γ X i f (fun p => p) [.Return (some (.Attribute (.Name n p1) f p2)) p3] := fun k hk T a oe cls d pn hz hf => by
  rw [← hK] at T
  refine PSs_imp (pss_one (ps_ret (pe_errF T hz hf (pe_var (X := X.suite a ((a, oe) :: pn)) (i := i) hN hv hd hcd)))) fun D σ H ⟨h1, h2, dd, v, μ, st, p, h3, h4, h5, h6, h7⟩ => ?_
  exact ⟨_, h1, rfl, h2, dd, v, h3, h4, h7 _ _ _ .refl h5 h6⟩
theorem suite_pair {n : Str} {i : Nat} {f z : Str} {j j2 : Nat} {p0 p1 p2 p3 p4 : Pos} (hK : X.K = Γ.K) (hN : X.N[i]? = some n := by rfl) (hv : Vis X.env.scope n := by first | exact Or.inl rfl | exact Or.inr (Or.inl rfl) | exact Or.inr (Or.inr rfl)) (hd : (n == ("__debug__" : Str)) = false := by decide)
    (hcd : (n == ("__classdict__" : Str)) = false := by decide) : SuiteG Γ X i f (fun p => .tup [.str z, p]) [.Return (some (.Tuple [.Constant (.str z) j p0, .Attribute (.Name n p1) f p2] j2 p4)) p3] := fun k hk T a oe cls d pn hz hf => by
  rw [← hK] at T
  refine PSs_imp (pss_one (ps_ret (pe_tup (pa_cons pe_str (pa_cons (pe_errF T hz hf (pe_var (X := X.suite a ((a, oe) :: pn)) (i := i) hN hv hd hcd)) pa_nil))))) fun D σ H ⟨h1, h2, dd, v, μ, st, p, h3, h4, h5, h6, h7⟩ => ?_
  refine ⟨_, h1, rfl, h2, dd, v, h3, h4, le1000 (by simp), fun q hq => ?_⟩
  have E : Ext Γ.K μ μ H (upd H q (.tup [.str z, v])) := ext_upd (.inl hq)
  exact h7 _ _ _ E (h5.other hq) (.tup (.inl (.inl upd_same)) (.cons (.str z) (.cons (h6.mono E) .nil)))
theorem qs_try1 {x n f : Str} {c : Value} {i : Nat} {body suite : List Stmt} {b₀ : Stmt} {np pos pos' : Pos} {sx : Sx} {is : Nat → Option Bool} {g : W → W} (hK : X.K = Γ.K) (hs : X.stack = X.env :: X.outer) (hf : X.env.frame = some X.env.locals) (hN : X.N.Nodup) (hi : X.N[i]? = some n) (hln : X.env.kindOf n = some .local) (hc : Names X x c) (tk : Takes X Wx)
    (his : ∀ k b, is k = some b → PySem.W.exmOne Γ.K (.ref (Γ.ec k)) c = some b) (hT : ∀ k, is k = some true → Γ.fld k = f ∧ PySem.ErrX.ErrC Γ.K (Γ.ec k) f) (hsu : SuiteG Γ X i f g (b₀ :: suite))
    (hlen : ∀ l st c p l1 st1, sx l st = .exc c p l1 st1 → l.length = X.N.length → i < l1.length)
    (hb : ∀ (W : WX) (pn : List (Addr × Obj)) (xe : Value → Shared → Prop), Takes (X.tr pn xe) W → PassesOwn (model X.prog X.w) X.A X.env xe → PSs (X.tr pn xe) body (tS Γ W sx)) :
    PS X (.Try body [.ExceptHandler (some (.Name x np)) (some n) (b₀ :: suite) pos'] [] [] pos) (fun D σ H => σ.length = X.N.length ∧ tS Γ Wx (sTry is g sx) D σ H) := by
  refine PS_imp (ps_try_as (Wout := Wx) (ts := fun a cls d D σ H => ∃ k, Γ.fld k = f ∧ PySem.ErrX.ErrC Γ.K (Γ.ec k) f ∧ σ[i]? = some (some (.ref a)) ∧ cls = .ref (Γ.ec k) ∧ ∃ dd v μ st p, d = some dd ∧ H dd = some (.xd [(f, v)]) ∧ Sim Γ μ st H ∧ Rep Γ.K μ H p v ∧ ∀ μ' H' u, Ext Γ.K μ μ' H H' → Sim Γ μ' st H' → Rep Γ.K μ' H' (g p) u → D.rt u H') hs hf hN hi hln hc tk hb (fun a oe cls d pn hz hff => ?_)) fun D σ H ⟨hsl, μ, l, st, hs, hl, h⟩ => ?_
  · refine ⟨fun pins s σ H D I ⟨k, h1, h2, h3⟩ => (hsu k h1 h2 a oe cls d pn hz hff).run pins s σ H D I h3⟩
  · refine ⟨μ, l, st, hs, hl, ?_⟩
    unfold sTry at h
    cases e : sx l st with
    | nx l1 st1 => rw [e] at h; exact h
    | rt w st1 => rw [e] at h; exact h
    | bk l1 st1 => rw [e] at h; exact h
    | ct l1 st1 => rw [e] at h; exact h
    | err => rw [e] at h; exact h
    | exc k p l1 st1 =>
      rw [e] at h
      intro μ1 H1 σ1 d v e1 s1 lr1 r1 q1
      dsimp only at h
      cases ek : is k with
      | none => rw [ek] at h; exact h.elim
      | some b =>
        rw [ek] at h
        refine ⟨b, by rw [hK]; exact his k b ek, fun hb a ha => ?_, fun hb => ?_⟩
        · subst hb
          obtain ⟨t1, t2⟩ := hT k ek
          have hlt : i < σ1.length := by rw [← lr1.1]; exact hlen l st k p l1 st1 e (by rw [hl.1, hsl])
          exact ⟨k, t1, t2, by rw [List.getElem?_set_self hlt], rfl, d, v, μ1, st1, p, rfl, by rw [← t1]; exact q1, s1, r1, fun μ2 H2 u e2 s2 r2 => h μ2 H2 u (e1.trans e2) s2 r2⟩
        · subst hb
          exact h μ1 H1 σ1 d v e1 s1 lr1 r1 q1
end
end RB

set_option Elab.async false
set_option linter.all false
set_option maxRecDepth 100000
set_option maxHeartbeats 4000000
namespace RB
open PySem PySem.Spec PyProof.Rows L2

def wPow (x y : W) (st : Sto) : Res W := match x, y with | .int a, .int b => if (decide (0 ≤ b) && decide (b ≤ 1000) && decide (a.natAbs < 2 ^ 60)) = true then .ok (.int (a ^ b.toNat)) st else .err | _, _ => .err
def wNeg (x : W) (st : Sto) : Res W := match x with | .int a => .ok (.int (-a)) st | _ => .err
def wMul (x y : W) (st : Sto) : Res W := match x, y with
  | .int a, .int b => if mulOk a b = true then .ok (.int (a * b)) st else .err
  | .tup ws, .int k => if (!ws.isEmpty && decide (2 ≤ k) && decide (k ≤ 1000) && decide (ws.length ≤ 1000)) = true then .ok (.tup (List.replicate k.toNat ws).flatten) st else if (!ws.isEmpty && k == 1) = true then .ok (.tup ws) st else .err
  | _, _ => .err
section
variable {X : Cx} {Γ : Gm} {Wx : WX} {e a b o tg iter elt : Expr} {es : List Expr} {ea eb eo : Ev} {eas : Evs}
theorem ok_pow : OpOk Γ (rI CPow fun i j => .int (i ^ j.toNat)) wPow := ok_int (fun _ _ _ _ _ => .int _) (fun i j st => by
  by_cases h : (decide (0 ≤ j) && decide (j ≤ 1000) && decide (i.natAbs < 2 ^ 60)) = true
  · refine .inl ⟨if_pos h, ?_⟩
    simp only [Bool.and_eq_true, decide_eq_true_eq] at h
    have h3 : i.natAbs < 2 ^ 64 := Nat.lt_trans h.2 (by decide)
    exact ⟨h.1.1, by omega, h3⟩
  · exact .inr (if_neg h)) (by intro x y st; cases x <;> cases y <;> first | exact .inr rfl | exact .inl ⟨_, _, rfl, rfl⟩)
theorem qe_neg {pos : Pos} (ha : PE X a (tE Γ Wx ea)) : PE X (.UnaryOp .USub a pos) (tE Γ Wx (eU wNeg ea)) :=
  PE_imp (pe_un un_neg ha) fun σ H Q ⟨μ, l, st, hs, hl, h⟩ => tG_bind hs hl h _ fun w st1 μ1 H1 v e1 s1 r1 h1 => by
    cases w with
    | int i => cases r1; exact ⟨i, rfl, h1.here s1 (.int _)⟩
    | _ => exact h1.elim
/-- t * 1 is t -/
theorem int_rmul_tup1 (x : Int) (u : Tok) (l : Addr) (items : Array Value) (n : Nat) (dd : Option Addr) (sl : Array (Option Value)) (hx : x = 1) :
    Meets (Builtin.«tuple.__mul__» ⟨[.ref l, .int x u], []⟩) (fun _ R s => s.heap.get? l = some { cls := .type "tuple", dict := dd, data := .seq items n, slots := sl } ∧ R (.ok (.ret (Value.ref l))) s) :=
  .of_wp fun prog w A R s h => by
    obtain ⟨hp, g, d, tk, os⟩ := s
    obtain ⟨hl, h⟩ := h
    subst hx
    have f1 := AutoSeq1.idx_int
    wp_walk using AutoSeq1.wpAny_loadPart' hl
    exact ⟨_, rfl, h⟩
/-- t * 1 -/
def rOne (K : PySem.W.Frag) : R2 := fun x y H Q => ∃ l xs, x = .ref l ∧ y = .int 1 ∧ SqT K H l xs ∧ Q (.ref l) H
theorem op_one : OpR X (binaryOp .Mult) (rOne X.K) := by
  intro ps st σ H x y v u Q I rx ry want
  obtain ⟨l, xs, rfl, rfl, hT, q⟩ := want
  cases rx
  obtain ⟨t, rfl⟩ := ry
  obtain ⟨its, r, ⟨⟨cls, dd, data, sl⟩, ho, hc, n, hd⟩, _⟩ := I.tuple hT
  simp only at hc hd
  subst hc hd
  exact wpAny_binaryOp_repeat_ref (T := "tuple") (U := "int") (by decide) ⟨_, ho, rfl⟩ (fun s' => typeIs_int s' 1 t) noFill_tuple_mul F.fills_int_mul F.slot_int_rmul repeat_tuple F.slot_int_index.lookup
    (call_meets F.slot_int_rmul (typeIs_int st 1 t) F.entry_int_rmul (F.args_int_rmul_2 _ _) (int_rmul_tuple 1 t l its.toArray n dd sl)
      ⟨ho, rfl, ⟨_, ho, rfl⟩, call_meets F.slot_tuple_mul ⟨_, ho, rfl⟩ F.entry_tuple_mul (F.args_tuple_mul_2 _ _) (int_rmul_tup1 1 t l its.toArray n dd sl rfl) ⟨ho, ⟨.ref l, H, I, rfl, q⟩⟩⟩)
abbrev rMulQ (K : PySem.W.Frag) : R2 := fun x y H Q => rI CMulX (fun i j => .int (i * j)) x y H Q ∨ (rRepT K x y H Q ∨ rOne K x y H Q)
theorem op_mulQ : OpR X (binaryOp .Mult) (rMulQ X.K) := .or op_mulX (.or op_repT op_one)
theorem Reps.rep {K : PySem.W.Frag} {μ : List Addr} {H : Hp} {ws : List W} {xs : List V} (r : Reps K μ H ws xs) : ∀ k : Nat, Reps K μ H (List.replicate k ws).flatten (List.replicate k xs).flatten
  | 0 => by simpa using Reps.nil
  | k + 1 => by rw [List.replicate_succ, List.replicate_succ, List.flatten_cons, List.flatten_cons]; exact r.append (Reps.rep r k)
theorem ok_mul (hK : X.K = Γ.K) : OpOk Γ (rMulQ X.K) wMul := fun Wx μ σ H st wx wy x y Q hs rx ry h => by
  rw [hK]
  cases wx with
  | int a =>
    cases wy with
    | int b =>
      simp only [wMul] at h
      split at h
      · rename_i q
        cases rx; cases ry
        exact .inl ⟨a, b, rfl, rfl, mulOk_ok q, h.here hs (.int _)⟩
      · exact h.elim
    | _ => exact h.elim
  | tup ws =>
    cases wy with
    | int k =>
      simp only [wMul] at h
      cases rx with
      | tup q1 q2 =>
        rename_i aa xs
        cases ry
        split at h
        · rename_i q
          simp only [Bool.and_eq_true, decide_eq_true_eq, Bool.not_eq_true'] at q
          refine .inr (.inl ⟨_, k, xs, rfl, rfl, q1, fun e => ?_, q.1.1.2, q.1.2, by rw [← q2.length]; exact q.2, fun p hp => ?_⟩)
          · subst e; cases q2; simp at q
          · have E : Ext Γ.K μ μ H (upd H p (.tup (List.replicate k.toNat xs).flatten)) := ext_upd (.inl hp)
            exact h _ _ _ E (hs.other hp) (.tup (.inl (.inl upd_same)) ((q2.rep _).mono E))
        · split at h
          · rename_i q
            simp only [Bool.and_eq_true, beq_iff_eq] at q
            rw [q.2]
            exact .inr (.inr ⟨_, xs, rfl, rfl, q1, h.here hs (.tup q1 q2)⟩)
          · exact h.elim
    | _ => exact h.elim
  | _ => exact h.elim

theorem q_add {pos : Pos} (hK : X.K = Γ.K) (ha : PE X a (tE Γ Wx ea)) (hb : PE X b (tE Γ Wx eb)) : PE X (.BinOp a .Add b pos) (tE Γ Wx (eBin wAdd ea eb)) := qe_bin op_addQ (ok_add hK) ha hb
theorem q_sub {pos : Pos} (ha : PE X a (tE Γ Wx ea)) (hb : PE X b (tE Γ Wx eb)) : PE X (.BinOp a .Sub b pos) (tE Γ Wx (eBin wSub ea eb)) := qe_bin op_sub ok_sub ha hb
theorem q_mul {pos : Pos} (hK : X.K = Γ.K) (ha : PE X a (tE Γ Wx ea)) (hb : PE X b (tE Γ Wx eb)) : PE X (.BinOp a .Mult b pos) (tE Γ Wx (eBin wMul ea eb)) := qe_bin op_mulQ (ok_mul hK) ha hb
theorem q_div {pos : Pos} (ha : PE X a (tE Γ Wx ea)) (hb : PE X b (tE Γ Wx eb)) : PE X (.BinOp a .FloorDiv b pos) (tE Γ Wx (eBin wDiv ea eb)) := qe_bin op_fdivW ok_div ha hb
theorem q_mod {pos : Pos} (ha : PE X a (tE Γ Wx ea)) (hb : PE X b (tE Γ Wx eb)) : PE X (.BinOp a .Mod b pos) (tE Γ Wx (eBin wMod ea eb)) := qe_bin op_mod ok_mod ha hb
theorem q_pow {pos : Pos} (ha : PE X a (tE Γ Wx ea)) (hb : PE X b (tE Γ Wx eb)) : PE X (.BinOp a .Pow b pos) (tE Γ Wx (eBin wPow ea eb)) := qe_bin op_pow ok_pow ha hb
/-- room for the comparisons -/
theorem un64 {A : Around} {k : Nat} (h : Room k A) : A.units + 64 < cLine := by have := h.un; omega
theorem un65 {A : Around} {k : Nat} (h : Room k A) : A.units + 65 < cLine := by have := h.un; omega
/-- one comparison, run: by the operator (as the printer's words name it) -/
structure CmpQ (X : Cx) (Γ : Gm) (o : CmpOp) (op : W → W → Sto → Res W) : Prop where
  ex : ∃ r, OpR X (compareOp o) r ∧ OpOk Γ r op
theorem c_eq {k : Nat} (hK : X.K = Γ.K) (h : Room k X.A) : CmpQ X Γ .Eq wEq := ⟨_, op_eqD (un64 h), ok_eq hK⟩
theorem c_ne {k : Nat} (hK : X.K = Γ.K) (h : Room k X.A) : CmpQ X Γ .NotEq wNe := ⟨_, op_neD (un64 h), ok_ne hK⟩
theorem c_in {k : Nat} (hK : X.K = Γ.K) (h : Room k X.A) : CmpQ X Γ .In wIn := ⟨_, op_inQ (un65 h), ok_in hK⟩
theorem c_notIn {k : Nat} (hK : X.K = Γ.K) (h : Room k X.A) : CmpQ X Γ .NotIn wNotIn := ⟨_, op_notInQ (un65 h), ok_notIn hK⟩
theorem c_lt : CmpQ X Γ .Lt wLt := ⟨_, op_lt, ok_lt⟩
theorem c_le : CmpQ X Γ .LtE wLe := ⟨_, op_le, ok_le⟩
theorem c_gt : CmpQ X Γ .Gt wGt := ⟨_, op_gt, ok_gt⟩
theorem c_ge : CmpQ X Γ .GtE wGe := ⟨_, op_ge, ok_ge⟩
theorem c_is : CmpQ X Γ .Is wIsN := ⟨_, op_isN, ok_isN⟩
theorem c_isNot : CmpQ X Γ .IsNot wNotN := ⟨_, op_notN, ok_notN⟩
theorem q_cmp {o : CmpOp} {op : W → W → Sto → Res W} {pos : Pos} (c : CmpQ X Γ o op) (ha : PE X a (tE Γ Wx ea)) (hb : PE X b (tE Γ Wx eb)) (hm : behindInMarks o b = false := by rfl) : PE X (.Compare a [o] [b] pos) (tE Γ Wx (eBin op ea eb)) := by
  obtain ⟨r, h1, h2⟩ := c.ex
  exact qe_cmp h1 h2 ha hb hm
theorem t_cmp {o : CmpOp} {op : W → W → Sto → Res W} {pos : Pos} (c : CmpQ X Γ o op) (ha : PE X a (tE Γ Wx ea)) (hb : PE X b (tE Γ Wx eb)) (hm : behindInMarks o b = false := by rfl) : PT X (.Compare a [o] [b] pos) (tT Γ Wx (bVal (eBin op ea eb))) := by
  obtain ⟨r, h1, h2⟩ := c.ex
  exact qt_cmp h1 h2 ha hb hm
theorem q_chain {c : Expr} {ec : Ev} {o o' : CmpOp} {op op' : W → W → Sto → Res W} {pos : Pos} (k : CmpQ X Γ o op) (k' : CmpQ X Γ o' op') (ha : PE X a (tE Γ Wx ea)) (hb : PE X b (tE Γ Wx eb)) (hc : PE X c (tE Γ Wx ec)) (hm : lastMarks [o, o'] [b, c] = false := by rfl) :
    PE X (.Compare a [o, o'] [b, c] pos) (tE Γ Wx (eChain op op' ea eb ec)) := by
  obtain ⟨r, h1, h2⟩ := k.ex
  obtain ⟨r', h1', h2'⟩ := k'.ex
  exact qe_chain h1 h2 h1' h2' ha hb hc hm
theorem t_chain {c : Expr} {ec : Ev} {o o' : CmpOp} {op op' : W → W → Sto → Res W} {pos : Pos} (k : CmpQ X Γ o op) (k' : CmpQ X Γ o' op') (ha : PE X a (tE Γ Wx ea)) (hb : PE X b (tE Γ Wx eb)) (hc : PE X c (tE Γ Wx ec)) (hm : lastMarks [o, o'] [b, c] = false := by rfl) :
    PT X (.Compare a [o, o'] [b, c] pos) (tT Γ Wx (bVal (eChain op op' ea eb ec))) := by
  obtain ⟨r, h1, h2⟩ := k.ex
  obtain ⟨r', h1', h2'⟩ := k'.ex
  exact qt_chain h1 h2 h1' h2' ha hb hc hm
theorem q_gint {x : Str} {i : Int} {pos : Pos} (hg : Gl X x) (hm : ∃ t, X.mg x = some (.int i t)) (hd : (x == ("__debug__" : Str)) = false := by decide) : PE X (.Name x pos) (tE Γ Wx (eLit (.int i))) := by
  obtain ⟨t, hm⟩ := hm
  exact qe_glob (v := .int i) hg hm ⟨t, rfl⟩ (fun _ _ => .int i) hd
/-- a place of a def's statement: its length is kept -/
theorem PS_len {s : Stmt} {t : TS} (h : PS X s (fun D σ H => σ.length = X.N.length ∧ t D σ H)) : PS X s t := ⟨fun pins s σ H D I q => h.run pins s σ H D I ⟨I.len, q⟩⟩
/-- b.f, a property -/
def noX (r : Res W) : Res W := match r with | .ok w st => .ok w st | _ => .err
def eProp (c : Nat) (F : List W → Sto → Res W) (a : Ev) : Ev := fun l st => (a l st).bind fun x st1 => match x with
  | .ref n => match st1.c[n]? with
    | some (.ins k _) => if k = c then noX (F [.ref n] st1) else .err
    | _ => .err
  | _ => .err
structure FnP (Γ : Gm) (P : Program) (w : World) (mg : Str → Option Value) (base : Heap) (k : Nat) (f : Str) (c : Nat) (F : List W → Sto → Res W) : Prop where
  ex : ∃ (p g : Addr) (fd : FuncData) (ps : List Str), FnOk P w Γ.K mg base (L2.CX P w) k g fd ps (spF Γ 1 F) ∧ PropOf Γ.K (Γ.cl c) f p g ∧ L2.Binds Γ.K fd ps []
theorem q_prop {k c : Nat} {f : Str} {F : List W → Sto → Res W} {pos : Pos} (G : FnP Γ X.prog X.w X.mg X.base k f c F) (hK : X.K = Γ.K) (hcl : Cls Γ.K (Γ.cl c)) (hr : Room (k + 1) X.A) (ha : PE X a (tE Γ Wx ea)) (hab : attributeBase a f X.env (eval a X.env) = eval a X.env := by rfl) :
    PE X (.Attribute a f pos) (tE Γ Wx (eProp c F ea)) := by
  obtain ⟨p, g, fd, ps, G1, hp, hb⟩ := G.ex
  rw [← hK] at G1 hp hb hcl
  refine PE_imp (pe_prop (dvs := []) (ds := []) (E := E0) ha hcl hp G1 hr hb .nil passL hab) fun σ H Q ⟨μ, l, st, hs, hl, h⟩ => tG_bind hs hl h _ fun w st1 μ1 H1 v e1 s1 r1 h1 => ?_
  split at h1
  · rename_i n
    split at h1
    · rename_i k2 fs ec
      split at h1
      · rename_i hk2
        subst hk2
        cases r1 with
        | ref hm =>
          obtain ⟨dx, gs, q1, q2⟩ := s1.cell n _ _ ec hm
          refine ⟨_, dx, gs, rfl, q1, μ1, st1, [.ref n], s1, .cons (.ref hm) .nil, rfl, ?_⟩
          generalize F [.ref n] st1 = r at h1 ⊢
          cases r with
          | ok w st2 => exact h1
          | exc c p st2 => exact h1.elim
          | err => exact h1.elim
      · exact h1.elim
    · exact h1.elim
  · exact h1.elim
theorem takesX {CX : CXT} : Takes X W0 := L2.takes0
end
section
variable {P : Program} {w : World} {K : PySem.W.Frag} {mg : Str → Option Value} {base : Heap} {cl ec : Nat → Addr} {fld : Nat → Str}
/-- the rule for a def with defaults -/
theorem q_okD {x qual : Str} {params : Arguments} {body : List Stmt} {scope : Scope} {dvs : List V} {kws : List (Str × V)} {f : Addr} {fd : FuncData} {N ps : List Str} {k np n : Nat} {sx : Sx} (F : L2.FunD K x qual params body scope dvs kws f fd) (S : FnScope N ps scope) (hn : N.length = n) (hp : ps.length = np)
    (hbody : ∀ (cdv : Value) (A : Around) (outer : List Env) (s : Shared) (H : Hp) (E : XK), Room k (A.deeper (envOfC qual scope s.heap.objs.size f cdv)) →
      PSs (cxOf (L2.CX P w) P w K mg base N qual scope f cdv A outer s H E) body (tS ⟨K, cl, ec, fld⟩ (fun cls d _ H => E cls d H) sx)) : FnOk P w K mg base (L2.CX P w) (k + 1) f fd ps (spF ⟨K, cl, ec, fld⟩ np (defn n sx)) := by
  refine F.ok S (fun vs H Q E h => by rw [hp]; exact spF_len h) (fun cdv A outer s H vs Q E hr h => ⟨_, hbody cdv A outer s H E hr, ?_⟩)
  exact body_run (hn := hn) h
theorem fn_err {f : Addr} {fd : FuncData} {ps : List Str} {np k : Nat} (hp : ps.length = np) : FnOk P w K mg base (L2.CX P w) k f fd ps (spF ⟨K, cl, ec, fld⟩ np fun _ _ => .err) :=
  ⟨fun vs H Q E h => by rw [hp]; exact spF_len h, fun A outer s H args us vs Q E hr he hb hv hs => by obtain ⟨_, _, _, _, _, _, h⟩ := hs; exact h.elim⟩
end
end RB

set_option Elab.async false
set_option linter.all false
set_option maxRecDepth 100000
set_option maxHeartbeats 4000000
namespace RB
open PySem PySem.Spec PyProof.Rows L2
/-- tuple(range(n)) -/
def fTupRange (w : W) (st : Sto) : Res W := match w with | .int j => if -1000000 ≤ j ∧ j ≤ 1000000 then .ok (.tup (upFrom 0 j.toNat)) st else .err | _ => .err
section
variable {X : Cx} {Γ : Gm} {Wx : WX} {e a b o tg iter elt : Expr} {es : List Expr} {ea eb eo : Ev} {eas : Evs}
theorem reps_up {K : PySem.W.Frag} {μ : List Addr} {H : Hp} : ∀ (n : Nat) (lo : Int), Reps K μ H (upFrom lo n) ((List.range n).map fun i => V.int (lo + (i : Nat)))
  | 0, lo => .nil
  | n + 1, lo => by
    rw [List.range_succ_eq_map, List.map_cons, List.map_map]
    refine .cons ?_ ?_
    · have : lo + ((0 : Nat) : Int) = lo := by omega
      rw [this]; exact .int _
    · have e : ((fun i : Nat => V.int (lo + (i : Int))) ∘ Nat.succ) = fun i : Nat => V.int ((lo + 1) + (i : Int)) := by
        funext i; simp only [Function.comp]; congr 1; push_cast; omega
      rw [e]
      exact reps_up n (lo + 1)
theorem q_tupRange {p p2 pos q : Pos} (hK : X.K = Γ.K) (hc : X.calm = true) (hg : Gl X "tuple") (hm : X.mg "tuple" = none) (hg2 : Gl X "range") (hm2 : X.mg "range" = none) (ha : PE X a (tE Γ Wx ea)) (na : starEach [a] X.env = (false, eval a X.env) :: starEach [] X.env := by rfl)
    (nb : starEach [.Call (.Name "range" p2) [a] [] q] X.env = (false, eval (.Call (.Name "range" p2) [a] [] q) X.env) :: starEach [] X.env := by rfl) : PE X (.Call (.Name "tuple" p) [.Call (.Name "range" p2) [a] [] q] [] pos) (tE Γ Wx (eU fTupRange ea)) :=
  PE_imp (pe_tupRg hc hg hm (prg_1 hg2 hm2 ha na) nb) fun σ H Q ⟨μ, l, st, hs, hl, h⟩ => tG_bind hs hl h _ fun w st1 μ1 H1 v e1 s1 r1 h1 => by
    unfold fTupRange at h1
    split at h1
    · rename_i j
      split at h1
      · rename_i hj
        cases r1
        refine ⟨j, rfl, ⟨by omega, by omega, by omega, by omega, by omega⟩, fun t ht => ?_⟩
        have E : Ext Γ.K μ1 μ1 H1 (upd H1 t (.tup (rgV 0 j))) := ext_upd (.inl ht)
        refine h1 _ _ _ E (s1.other ht) (.tup (.inl (.inl upd_same)) ?_)
        unfold rgV
        have : (j - 0).toNat = j.toNat := by omega
        rw [this]
        exact reps_up _ 0
      · exact h1.elim
    · exact h1.elim
end
end RB

set_option Elab.async false
set_option linter.all false
set_option maxRecDepth 100000
set_option maxHeartbeats 4000000
namespace RB
open PySem PySem.Spec PyProof.Rows L2
def spL (K : PySem.W.Frag) : Sp := fun vs H Q _ => ∃ (a : Addr) (ns : List Int), vs = [.ref a] ∧ SqL K H a (ns.map V.int) ∧ Only H ∧ ns.length ≤ 63 ∧ (∀ z ∈ ns, Builtin.Int.intBits z ≤ 1048576) ∧ ∀ H', Q (.bl true) H'
/-- the run gives True at every script -/
def Runs (F : List W → Sto → Res W) : Prop := ∀ ns : List Int, ns.length ≤ 63 → (∀ z ∈ ns, Builtin.Int.intBits z ≤ 1048576) → ∃ st', F [.ref 0] ⟨[.scr (ns.map .int)], none⟩ = .ok (.bl true) st'
theorem ints_low (n : Nat) : ∀ ns : List Int, W.lows n (ns.map W.int) = true
  | [] => rfl
  | _ :: r => by show (W.low n (W.int _) && W.lows n (r.map W.int)) = true; rw [ints_low n r]; rfl
section
variable {P : Program} {w : World} {K : PySem.W.Frag} {mg : Str → Option Value} {base : Heap} {cl ec : Nat → Addr} {fld : Nat → Str}
theorem law_ok {CX : CXT} {k : Nat} {f : Addr} {fd : FuncData} {ps : List Str} {F : List W → Sto → Res W} (hF : Runs F) (G : FnOk P w K mg base CX k f fd ps (spF ⟨K, cl, ec, fld⟩ 1 F)) : FnOk P w K mg base CX k f fd ps (spL K) := by
  refine G.imp fun vs H Q E ⟨a, ns, ev, hS, hO, hl, hbits, k⟩ => ?_
  subst ev
  obtain ⟨st', e⟩ := hF ns hl hbits
  refine ⟨[a], ⟨[.scr (ns.map .int)], none⟩, [.ref 0], ⟨rfl, ?_, ?_, ?_⟩, .cons (.ref rfl) .nil, rfl, ?_⟩
  · intro i j x c d hi hj ci
    cases i with
    | zero => cases hi; cases ci
    | succ i => cases hi
  · intro i c x hi hx
    cases i with
    | succ i => cases hi
    | zero =>
      cases hi; cases hx
      refine ⟨ns.map V.int, ?_, Reps.of_ints ns⟩
      rcases hS with hS | hS
      · rcases hO a with q | ⟨o, xs, q⟩
        · rcases hS with hS | ⟨o, hS⟩
          · rw [q] at hS; cases hS
          · rw [q] at hS; cases hS
        · rcases hS with hS | ⟨o', hS⟩
          · rw [q] at hS; cases hS
          · exact .inr ⟨o', hS⟩
      · exact .inl hS
  · intro i c hi _
    cases i with
    | succ i => cases hi
    | zero => cases hi; exact ints_low _ ns
  · rw [e]
    intro μ' H' b _ _ r
    cases r
    exact k H'
theorem fn_mk1 {k np : Nat} {x : Str} {f : Addr} {fd : FuncData} {ps : List Str} {F : List W → Sto → Res W} (G : FnOk P w K mg base (L2.CX P w) k f fd ps (spF ⟨K, cl, ec, fld⟩ np F)) (hm : mg x = some (.ref f)) (hk : PySem.W.keepIn K (.ref f) = true) (hb : L2.Binds K fd ps []) : Fn ⟨K, cl, ec, fld⟩ P w mg base k x np [] F :=
  ⟨f, fd, ps, [], [], G, hm, hk, hb, .nil, fun _ _ => .nil⟩
theorem fnI_mk1 {k np c : Nat} {x : Str} {f : Addr} {fd : FuncData} {ps : List Str} {ds : List Value} {F : List W → Sto → Res W} (G : FnOk P w K mg base (L2.CX P w) k f fd ps (spF ⟨K, cl, ec, fld⟩ np F)) (M : Mk K (cl c) f) (hm : mg x = some (.ref (cl c))) (hb : L2.Binds K fd ps ds) (hd : Vals [] ds) : FnI ⟨K, cl, ec, fld⟩ P w mg base k x c np [] F :=
  ⟨f, fd, ps, ds, [], G, M, hm, hb, hd, fun _ _ => .nil⟩
theorem fnP_mk1 {k c : Nat} {x : Str} {p g : Addr} {fd : FuncData} {ps : List Str} {F : List W → Sto → Res W} (G : FnOk P w K mg base (L2.CX P w) k g fd ps (spF ⟨K, cl, ec, fld⟩ 1 F)) (hp : PropOf K (cl c) x p g) (hb : L2.Binds K fd ps []) : FnP ⟨K, cl, ec, fld⟩ P w mg base k x c F :=
  ⟨p, g, fd, ps, G, hp, hb⟩
theorem mk_err_at {C fI : Addr} {qual : Str} {oc doc pm cdv ct : Value} {od an : Option Addr} {osl : Array (Option Value)} {p1 p2 q1 q2 q3 q4 : Pos} {nm q : Str} {N : Addr} {bs bm : List Value} {sn : List Str} {sub : List Value} {ab : Bool} {col : Option Bool} {dd : Option Addr} {k0 k1 k2 k3 k5 : Option Value}
    (cls : K.lookup C = some (excClassObj nm q C N bs bm true sn sub ab col dd k0 k1 k2 k3 k5 "Exception.__new__")) (hbm : PySem.ErrX.refsEx bm = true)
    (sa : PySem.W.findIn K (.ref C) "__setattr__" = some (some (.builtin "object.__setattr__"))) (ga : PySem.W.findIn K (.ref C) "__getattribute__" = some (some (.builtin "BaseException.__getattribute__"))) (gg : PySem.W.findIn K (.ref C) "__getattr__" = some none)
    (noN : PySem.W.findIn K (.ref C) "at" = some none) (kC : PySem.W.keepIn K (.ref C) = true) (exC : PySem.W.subIn K (.ref C) (.type "BaseException") = some true) (tyC : PySem.W.typeIn K (.ref C) = some (.type "type")) (hdC : PySem.W.hasDictIn K C = true)
    (iI : PySem.W.findIn K (.ref C) "__init__" = some (some (.ref fI))) (tI : PySem.W.typeIn K (.ref fI) = some (.type "function"))
    (fn : K.lookup fI = some ⟨oc, od, .func (PySem.W.fnOf "__init__" qual (PySem.ErrX.iA_at p1 p2) (PySem.ErrX.iB_at q1 q2 q3 q4) PySem.ErrX.iS_at .none .none doc pm an cdv ct), osl⟩) (hcd : PySem.W.codeIn K cdv qual = true) : PySem.ErrX.ErrC K C "at" :=
  { cls := ⟨_, _, _, _, _, _, _, _, _, _, _, _, _, _, _, cls, hbm⟩, sa := sa, ga := ga, gg := gg, noN := noN, kC := kC, exC := exC, tyC := tyC, hdC := hdC,
    ini := ⟨fI, iI, tI, fun prog w A R s x t0 v X hlim hx hnx room want => PySem.ErrX.ini_at fn hcd ⟨_, _, _, _, _, _, _, _, _, _, _, _, _, _, _, cls, hbm⟩ sa noN X hlim hx hnx room want⟩ }
end
theorem kit_more {K : PySem.W.Frag} {t c : Value} {r : List Value} {b : Bool} (h : PySem.W.kitAny K t [c] = some false) (q : PySem.W.kitAny K t r = some b) : PySem.W.kitAny K t (c :: r) = some b := by
  unfold PySem.W.kitAny at h ⊢
  cases e : PySem.W.kitOne K t c with
  | none => rw [e] at h; cases h
  | some x => cases x with
    | true => rw [e] at h; cases h
    | false => exact q
theorem kit_1 {K : PySem.W.Frag} {C : Addr} {T : String} {b : Bool} (h : PySem.W.subIn K (.ref C) (.type T) = some b) (m : PySem.W.kitMeta T = true) : PySem.W.kitAny K (.ref C) [.type T] = some b := by
  unfold PySem.W.kitAny PySem.W.kitOne
  rw [if_neg (by intro q; cases q)]
  unfold PySem.W.kitCls
  simp only [m, h, if_true]
  cases b <;> rfl
theorem kit_own {K : PySem.W.Frag} {C : Addr} {T : String} (ic : PySem.W.isClsIn K C = true) (ty : PySem.W.typeIn K (.ref C) = some (.type "type")) (h : PySem.W.subIn K (.type T) (.ref C) = some false) : PySem.W.kitAny K (.type T) [.ref C] = some false := by
  unfold PySem.W.kitAny PySem.W.kitOne
  rw [if_neg (by intro q; cases q)]
  have ic' : (PySem.W.clsIn K C).isSome = true := ic
  unfold PySem.W.kitCls
  simp only [ic', ty, h]
  rfl
theorem kit_self {K : PySem.W.Frag} {C : Addr} : PySem.W.kitAny K (.ref C) [.ref C] = some true := by
  unfold PySem.W.kitAny PySem.W.kitOne
  rw [if_pos (beq_self_eq_true _)]
theorem walk {l : PySem.W.OpenLaw} {q : Program} {loose : List Str} {XP : (Str → Option Value) → Heap → Prop} {YP : World → Heap → Prop} {d : DefRec} {K : Params → PySem.W.Frag} {k : Nat} (hn : l.most = some 63) (hdf : d.params.defaults = []) (hr : Room k callerA)
    (hY : ∀ (w : World) (h : Heap), YP w h → (K w.params).In h)
    (F : ∀ (w : World) (mg : Str → Option Value) (fa : Addr) (h : Heap), (K w.params).In h → h.Ns mainGlobals mg → mg d.name = some (.ref fa) →
      ∃ fd : FuncData, (∀ (s : Shared) (u : Value), BindsTo s fd ⟨[u], []⟩ [("script", u)]) ∧ ∀ base : Heap, (K w.params).In base → base.Ns mainGlobals mg → FnOk l.prog w (K w.params) mg base (L2.CX l.prog w) k fa fd ["script"] (spL (K w.params))) :
    PySem.W.WalkO q loose XP YP l.row.toRowW d [] (fun f vs => PySem.call f vs) :=
  L2.walk_ofB (n := 63) (k := k) (x := "script") (CX := fun w => L2.CX l.prog w) (sp := fun w => spL (K w.params)) hn (by decide) hdf hr hY F (fun _ H a ns hl hb hO hS => ⟨a, ns, rfl, hS, hO, hl, hb, fun _ => rfl⟩) fun w H s e s' h => by
    obtain ⟨_, _, _, _, _, _, _, _, _, _, _, _, z⟩ := h
    exact z.elim
end RB

set_option Elab.async false
set_option linter.all false
set_option maxRecDepth 100000
set_option maxHeartbeats 4000000
namespace RB
open PySem PySem.Spec PyProof.Rows L2
def eComp2 (n : Nat) (own own1 : List Nat) (src : Sv) (tg : Tg) (cond : Bv) (src1 : Sv) (tg1 : Tg) (cond1 : Bv) (elt : Ev) : Ev := fun l st => (src l st).bind fun s st1 => (cLoop s tg own cond (fun l1 st2 => (src1 l1 st2).bind fun s1 st3 => cLoop s1 tg1 own1 cond1 (cApp elt st1.c.length) l1 n 0 st3) l n 0 (st1.push (.lst []))).bind fun _ st2 => .ok (.ref st1.c.length) st2
/-- as a comprehension's target, for the inner one: it binds own names again -/
def andThen (r : Res Unit) (k : Sto → Res Unit) : Res Unit := match r with | .ok _ st => k st | _ => .err
section
variable {X : Cx} {Γ : Gm} {Wx : WX} {e a b o tg iter tg1 iter1 elt : Expr} {es : List Expr} {ea eb eo : Ev} {eas : Evs}
theorem cLoop_in {s : Src} {tg : Tg} {own : List Nat} {cond : Bv} {body : Rv} {l : Lo} {f i : Nat} {st : Sto} : cLoop s tg own cond body l (f + 1) i st = match s.at st i with
    | none => .err
    | some none => .ok () st
    | some (some w) => match tg w (wipeL l own) st with
      | none => .err
      | some l1 => match cond l1 st with
        | .ok b st1 => if b = true then andThen (body l1 st1) (fun st2 => cLoop s tg own cond body l f (i + 1) st2) else cLoop s tg own cond body l f (i + 1) st1
        | _ => .err := rfl
theorem lc2_run {own : List (Str × Nat)} {vs1 : List Nat} {src src1 : Sv} {t t1 : Tg} {g g1 : TG} {bc bc1 : Bv} {n : Nat} (hgt : CT Γ g t (own.map (·.2))) (hgt1 : CT Γ g1 t1 vs1) (σ : L2.St) (H : Hp) (Q : VK) (h : tE Γ Wx (eComp2 n (own.map (·.2)) vs1 src t bc src1 t1 bc1 ea) σ H Q) :
    tLc2 (tI Γ Wx src) g (tT Γ W0 bc) (tI Γ W0 src1) g1 (tT Γ W0 bc1) (tE Γ W0 ea) (own.map (·.2)) vs1 σ H Q := by
    obtain ⟨μ, l, st, hs, hl, h⟩ := h
    refine ⟨μ, l, st, hs, hl, ?_⟩
    unfold eComp2 at h
    cases es : src l st with
    | err => rw [es] at h; exact h
    | exc c p st1 => rw [es] at h; exact h
    | ok s st1 =>
      rw [es] at h
      intro μ1 H1 J e1 s1 hJ D hD
      have h := Post.mono (show Post Γ Wx (Rep Γ.K) μ σ H Q ((cLoop s t (own.map (·.2)) bc (fun l1 st2 => (src1 l1 st2).bind fun s1 st3 => cLoop s1 t1 vs1 bc1 (cApp ea st1.c.length) l1 n 0 st3) l n 0 (st1.push (.lst []))).bind fun _ st2 => .ok (.ref st1.c.length) st2) from h) e1
      have E : Ext Γ.K μ1 (μ1 ++ [D]) H1 (upd H1 D (.lst [])) := ext_new hD
      have s2 : Sim Γ (μ1 ++ [D]) (st1.push (.lst [])) (upd H1 D (.lst [])) := s1.new hD ⟨[], upd_same, .nil⟩ rfl
      have hd : (μ1 ++ [D])[st1.c.length]? = some D := by rw [← s1.len]; simp
      have h := Post.mono h E
      have hJ := hJ.mono E
      have hl := hl.mono (e1.trans E)
      generalize st1.c.length = d at *
      generalize hbody : (fun (l1 : Lo) (st2 : Sto) => (src1 l1 st2).bind fun s1 st3 => cLoop s1 t1 vs1 bc1 (cApp ea d) l1 n 0 st3) = body at *
      refine ⟨fun i m H' => ∃ μ' st', Ext Γ.K (μ1 ++ [D]) μ' (upd H1 D (.lst [])) H' ∧ Sim Γ μ' st' H' ∧ Post Γ Wx (Rep Γ.K) μ' σ H' Q ((cLoop s t (own.map (·.2)) bc body l m i st').bind fun _ st2 => .ok (.ref d) st2), ⟨n, _, _, .refl, s2, h⟩, ?_⟩
      rintro i m H' ⟨μ2, st2, e2, s2', h2⟩
      obtain ⟨go, stop⟩ := hJ μ2 H' st2 e2 s2' i
      cases m with
      | zero => exact h2.elim
      | succ m =>
        rw [cLoop_in] at h2
        cases ea1 : s.at st2 i with
        | none => rw [ea1] at h2; exact h2.elim
        | some oo =>
          cases oo with
          | none =>
            rw [ea1] at h2
            exact .inl ⟨stop ea1, Post.here (show Post Γ Wx (Rep Γ.K) μ2 σ H' Q (.ok (.ref d) st2) from h2) s2' (.ref (e2.pre _ _ hd))⟩
          | some w =>
            rw [ea1] at h2
            obtain ⟨go1, go2⟩ := go w ea1
            refine .inr ⟨go1, fun H3 => ∃ μ' st', Ext Γ.K (μ1 ++ [D]) μ' (upd H1 D (.lst [])) H3 ∧ Sim Γ μ' st' H3 ∧ Post Γ Wx (Rep Γ.K) μ' σ H3 Q ((cLoop s t (own.map (·.2)) bc body l m (i + 1) st').bind fun _ st2 => .ok (.ref d) st2), fun H3 q => ⟨m, Nat.lt_succ_self _, q⟩, fun v H3 hy => ?_⟩
            obtain ⟨y1, y2, y3⟩ := go2 v H3 hy
            dsimp only at h2
            cases et : t w (wipeL l (own.map Prod.snd)) st2 with
            | none => rw [et] at h2; exact h2.elim
            | some l3 =>
              rw [et] at h2
              dsimp only at h2
              have e3 := e2.trans y1
              have h2 := Post.mono h2 y1
              refine hgt μ2 H3 _ σ w v l3 st2 _ y2 ((hl.mono e3).wipe (own.map Prod.snd)) y3 et fun σ2 lr2 hw => ⟨hw, μ2, l3, st2, y2, lr2, ?_⟩
              cases eb : bc l3 st2 with
              | err => rw [eb] at h2; exact h2.elim
              | exc c p st4 => rw [eb] at h2; exact h2.elim
              | ok bb st4 =>
                rw [eb] at h2
                intro μ4 H4 b' e4 s4 r4
                subst r4
                have h4 := Post.mono h2 e4
                dsimp only at h4
                cases bb with
                | false => exact ⟨μ4, st4, e3.trans e4, s4, h4⟩
                | true =>
                  refine ⟨μ4, l3, st4, s4, lr2.mono e4, ?_⟩
                  have h4 : Post Γ Wx (Rep Γ.K) μ4 σ H4 Q ((andThen (body l3 st4) fun st2 => cLoop s t (own.map Prod.snd) bc body l m (i + 1) st2).bind fun _ st2 => .ok (.ref d) st2) := h4
                  rw [← hbody] at h4
                  dsimp only at h4
                  rw [hbody] at h4
                  cases es1 : src1 l3 st4 with
                  | err => rw [es1] at h4; exact h4.elim
                  | exc c p st5 => rw [es1] at h4; exact h4.elim
                  | ok s5 st5 =>
                    rw [es1] at h4
                    intro μ5 H5 J1 e5 q5 hJ1
                    have h5 := Post.mono (show Post Γ Wx (Rep Γ.K) μ4 σ H4 Q ((andThen (cLoop s5 t1 vs1 bc1 (cApp ea d) l3 n 0 st5) fun st2 => cLoop s t (own.map Prod.snd) bc body l m (i + 1) st2).bind fun _ st2 => .ok (.ref d) st2) from h4) e5
                    have lr5 := (lr2.mono e4).mono e5
                    have e35 := e3.trans (e4.trans e5)
                    refine ⟨fun j k H6 => ∃ μ' st', Ext Γ.K μ5 μ' H5 H6 ∧ Sim Γ μ' st' H6 ∧ Post Γ Wx (Rep Γ.K) μ' σ H6 Q ((andThen (cLoop s5 t1 vs1 bc1 (cApp ea d) l3 k j st') fun st2 => cLoop s t (own.map Prod.snd) bc body l m (i + 1) st2).bind fun _ st2 => .ok (.ref d) st2), ⟨n, _, _, .refl, q5, h5⟩, ?_⟩
                    rintro j k H6 ⟨μ6, st6, e6, s6, h6⟩
                    obtain ⟨goI, stopI⟩ := hJ1 μ6 H6 st6 e6 s6 j
                    cases k with
                    | zero => exact h6.elim
                    | succ k =>
                      rw [cLoop_in] at h6
                      cases ej : s5.at st6 j with
                      | none => rw [ej] at h6; exact h6.elim
                      | some oo =>
                        cases oo with
                        | none =>
                          rw [ej] at h6
                          exact .inl ⟨stopI ej, μ6, st6, e35.trans e6, s6, h6⟩
                        | some w6 =>
                          rw [ej] at h6
                          obtain ⟨gI1, gI2⟩ := goI w6 ej
                          refine .inr ⟨gI1, fun H7 => ∃ μ' st', Ext Γ.K μ5 μ' H5 H7 ∧ Sim Γ μ' st' H7 ∧ Post Γ Wx (Rep Γ.K) μ' σ H7 Q ((andThen (cLoop s5 t1 vs1 bc1 (cApp ea d) l3 k (j + 1) st') fun st2 => cLoop s t (own.map Prod.snd) bc body l m (i + 1) st2).bind fun _ st2 => .ok (.ref d) st2), fun H7 q => ⟨k, Nat.lt_succ_self _, q⟩, fun v7 H7 hy7 => ?_⟩
                          obtain ⟨z1, z2, z3⟩ := gI2 v7 H7 hy7
                          dsimp only at h6
                          cases et1 : t1 w6 (wipeL l3 vs1) st6 with
                          | none => rw [et1] at h6; exact h6.elim
                          | some l7 =>
                            rw [et1] at h6
                            dsimp only at h6
                            have h7 := Post.mono h6 z1
                            refine hgt1 μ6 H7 _ σ2 w6 v7 l7 st6 _ z2 ((lr5.mono (e6.trans z1)).wipe vs1) z3 et1 fun σ3 lr7 hw7 => ⟨hw7, μ6, l7, st6, z2, lr7, ?_⟩
                            cases eb1 : bc1 l7 st6 with
                            | err => rw [eb1] at h7; exact h7.elim
                            | exc c p st8 => rw [eb1] at h7; exact h7.elim
                            | ok b8 st8 =>
                              rw [eb1] at h7
                              intro μ8 H8 b8' e8 s8 r8
                              subst r8
                              have h8 := Post.mono h7 e8
                              dsimp only at h8
                              cases b8 with
                              | false => exact ⟨μ8, st8, e6.trans (z1.trans e8), s8, h8⟩
                              | true =>
                                refine ⟨μ8, l7, st8, s8, lr7.mono e8, ?_⟩
                                have h8 : Post Γ Wx (Rep Γ.K) μ8 σ H8 Q ((andThen (andThen (cApp ea d l7 st8) fun st2 => cLoop s5 t1 vs1 bc1 (cApp ea d) l3 k (j + 1) st2) fun st2 => cLoop s t (own.map Prod.snd) bc body l m (i + 1) st2).bind fun _ st2 => .ok (.ref d) st2) := h8
                                unfold cApp at h8
                                cases ey : ea l7 st8 with
                                | err => rw [ey] at h8; exact h8.elim
                                | exc c p st9 => rw [ey] at h8; exact h8.elim
                                | ok y st9 =>
                                  rw [ey] at h8
                                  intro μ9 H9 yv e9 s9 r9
                                  have h9 := Post.mono h8 e9
                                  have hd9 := (e35.trans (e6.trans (z1.trans (e8.trans e9)))).pre _ _ hd
                                  dsimp only at h9
                                  cases ec : st9.c[d]? with
                                  | none => rw [ec] at h9; exact h9.elim
                                  | some cc =>
                                    rw [ec] at h9
                                    cases cc with
                                    | lst us =>
                                      obtain ⟨acc, q1, q2⟩ := s9.cell d _ _ ec hd9
                                      dsimp only at h9
                                      by_cases hlen : us.length < 1000000
                                      · rw [if_pos hlen] at h9
                                        refine ⟨acc, q1, by rw [← q2.length]; exact Nat.lt_of_lt_of_le hlen (le_line (Nat.le_refl _)), ?_⟩
                                        have E9 := ext_wr (K := Γ.K) (μ := μ9) (o := .lst (acc ++ [yv])) q1
                                        exact ⟨μ9, _, (e6.trans (z1.trans (e8.trans e9))).trans E9, s9.write (c := .lst (us ++ [y])) (b := W.low d y) ec hd9 q1 rfl rfl ⟨_, upd_same, (q2.snoc r9).mono E9⟩ fun b q => lows_append q (by simp [W.lows]; exact b), Post.mono h9 E9⟩
                                      · rw [if_neg hlen] at h9; exact h9.elim
                                    | _ => exact h9.elim
/-- [elt for tg in iter if .. for tg1 in iter1 if ..] -/
theorem qe_comp2 {ifs ifs1 : List Expr} {scope : Scope} {own : List (Str × Nat)} {vs1 : List Nat} {pos : Pos} {src src1 : Sv} {t t1 : Tg} {g g1 : TG} {bc bc1 : Bv} {n : Nat} (hc : X.calm = true) (hN : X.N.Nodup) (hi : PI X tg iter (tI Γ Wx src)) (ok : BlkOk X.N X.env.scope scope own) (hv : ∀ i ∈ vs1, i ∈ own.map (·.2))
    (hg : ∀ (s : Shared) (H : Hp) (C : Addr) (cl : List (Str × Addr)) (fp : List Addr), PG (X.blk s H scope (compEnvC scope cl C X.env) fp) tg g) (hgt : CT Γ g t (own.map (·.2)))
    (ht : ∀ (s : Shared) (H : Hp) (C : Addr) (cl : List (Str × Addr)) (fp : List Addr), PTs (X.blk s H scope (compEnvC scope cl C X.env) fp) ifs (tT Γ W0 bc))
    (hi1 : ∀ (s : Shared) (H : Hp) (C : Addr) (cl : List (Str × Addr)) (fp : List Addr), PI (X.blk s H scope (compEnvC scope cl C X.env) fp) tg1 iter1 (tI Γ W0 src1))
    (hg1 : ∀ (s : Shared) (H : Hp) (C : Addr) (cl : List (Str × Addr)) (fp : List Addr), PG (X.blk s H scope (compEnvC scope cl C X.env) fp) tg1 g1) (hgt1 : CT Γ g1 t1 vs1)
    (ht1 : ∀ (s : Shared) (H : Hp) (C : Addr) (cl : List (Str × Addr)) (fp : List Addr), PTs (X.blk s H scope (compEnvC scope cl C X.env) fp) ifs1 (tT Γ W0 bc1))
    (he : ∀ (s : Shared) (H : Hp) (C : Addr) (cl : List (Str × Addr)) (fp : List Addr), PE (X.blk s H scope (compEnvC scope cl C X.env) fp) elt (tE Γ W0 ea))
    (hs : ∀ x, foldedSetIterable iter X.env x = pure x := by intro _; rfl) (hs1 : ∀ env x, foldedSetIterable iter1 env x = pure x := by intro _ _; rfl) : PE X (.ListComp elt [⟨tg, iter, ifs, 0⟩, ⟨tg1, iter1, ifs1, 0⟩] scope pos) (tE Γ Wx (eComp2 n (own.map (·.2)) vs1 src t bc src1 t1 bc1 ea)) :=
  PE_imp (pe_lc2 hc hN hi ok hv hg ht hi1 hg1 ht1 he hs hs1) fun σ H Q h => lc2_run hgt hgt1 σ H Q h
/-- y = [elt for tg in iter if .. for tg1 in iter1 if ..] -/
theorem qs_comp2 {ifs ifs1 : List Expr} {scope : Scope} {own : List (Str × Nat)} {vs1 : List Nat} {pos spos py : Pos} {i : Nat} {y : Str} {src src1 : Sv} {t t1 : Tg} {g g1 : TG} {bc bc1 : Bv} {n : Nat} (hc : X.calm = true) (hN : X.N.Nodup) (hy : X.N[i]? = some y) (hyl : X.env.scope.names.lookup y = some .local) (hsw : swapsWith (.ListComp elt [⟨tg, iter, ifs, 0⟩, ⟨tg1, iter1, ifs1, 0⟩] scope pos) (some (.Name y py)) spos.line X.env = pure true) (hi : PI X tg iter (tI Γ Wx src)) (ok : BlkOk X.N X.env.scope scope own) (hv : ∀ i ∈ vs1, i ∈ own.map (·.2))
    (hg : ∀ (s : Shared) (H : Hp) (C : Addr) (cl : List (Str × Addr)) (fp : List Addr), PG (X.blk s H scope (compEnvC scope cl C X.env) fp) tg g) (hgt : CT Γ g t (own.map (·.2)))
    (ht : ∀ (s : Shared) (H : Hp) (C : Addr) (cl : List (Str × Addr)) (fp : List Addr), PTs (X.blk s H scope (compEnvC scope cl C X.env) fp) ifs (tT Γ W0 bc))
    (hi1 : ∀ (s : Shared) (H : Hp) (C : Addr) (cl : List (Str × Addr)) (fp : List Addr), PI (X.blk s H scope (compEnvC scope cl C X.env) fp) tg1 iter1 (tI Γ W0 src1))
    (hg1 : ∀ (s : Shared) (H : Hp) (C : Addr) (cl : List (Str × Addr)) (fp : List Addr), PG (X.blk s H scope (compEnvC scope cl C X.env) fp) tg1 g1) (hgt1 : CT Γ g1 t1 vs1)
    (ht1 : ∀ (s : Shared) (H : Hp) (C : Addr) (cl : List (Str × Addr)) (fp : List Addr), PTs (X.blk s H scope (compEnvC scope cl C X.env) fp) ifs1 (tT Γ W0 bc1))
    (he : ∀ (s : Shared) (H : Hp) (C : Addr) (cl : List (Str × Addr)) (fp : List Addr), PE (X.blk s H scope (compEnvC scope cl C X.env) fp) elt (tE Γ W0 ea))
    (hs : ∀ x, foldedSetIterable iter X.env x = pure x := by intro _; rfl) (hs1 : ∀ env x, foldedSetIterable iter1 env x = pure x := by intro _ _; rfl) : PS X (.Assign [.Name y py] (.ListComp elt [⟨tg, iter, ifs, 0⟩, ⟨tg1, iter1, ifs1, 0⟩] scope pos) spos) (tS Γ Wx (sSet (tgName i) (eComp2 n (own.map (·.2)) vs1 src t bc src1 t1 bc1 ea))) :=
  PS_imp (ps_setLc2 hc hN hy hyl hsw hi ok hv hg ht hi1 hg1 ht1 he hs hs1) fun D σ H ⟨μ, l, st, hs, hl, h⟩ => lc2_run hgt hgt1 σ H _ (tG_bindS hs hl h _ fun w st1 μ1 H1 v e1 s1 r1 h1 => h1.here s1 ((hl.mono e1).set r1 i))
end
end RB

set_option Elab.async false
set_option linter.all false
set_option maxRecDepth 100000
set_option maxHeartbeats 4000000
namespace RB
open PySem PySem.Spec PyProof.Rows L2
def fAbs (ws : List W) (st : Sto) : Res W := match ws with | [.int i] => .ok (.int (if i < 0 then -i else i)) st | _ => .err
def tgPair (i j : Nat) : Tg := fun w l _ => match w with | .tup [x, y] => some ((l.set i (some x)).set j (some y)) | _ => none
section
variable {X : Cx} {Γ : Gm} {Wx : WX} {e a b o tg iter elt : Expr} {es : List Expr} {ea eb eo : Ev} {eas : Evs}
theorem ok_abs : CallOk Γ (fun xs H Q => ∃ i, xs = [.int i] ∧ Q (.int (if i < 0 then -i else i)) H) fAbs := fun Wx μ σ H st ws xs Q hs hr h => by
  unfold fAbs at h
  split at h
  · cases hr with
    | cons r t => cases r; cases t; exact ⟨_, rfl, h.here hs (.int _)⟩
  · exact h.elim
theorem ct_two {i j : Nat} {vs : List Nat} (hi : i ∈ vs) (hj : j ∈ vs) : CT Γ (gTup Γ.K 2 (gCons (gName i) (gCons (gName j) gNil))) (tgPair i j) vs := ct_pair hi hj
/-- a tuple of the written part -/
def KTup (K : PySem.W.Frag) (a : Addr) (ns : List Int) : Prop := ∃ (o : Obj) (its : Array Value) (n : Nat), K.lookup a = some o ∧ o.cls = .type "tuple" ∧ o.data = .seq its n ∧ its.size ≤ sizeLine ∧ Vals (ns.map V.int) its.toList
theorem KTup.rep {K : PySem.W.Frag} {a : Addr} {ns : List Int} (h : KTup K a ns) (μ : List Addr) (H : Hp) : Rep K μ H (.tup (ns.map .int)) (.ref a) := .tup (.inr h) (Reps.of_ints ns)
theorem q_gtup {x : Str} {ns : List Int} {pos : Pos} (hK : X.K = Γ.K) (hg : Gl X x) (hm : ∃ c, X.mg x = some (.ref c) ∧ KTup Γ.K c ns) (hd : (x == ("__debug__" : Str)) = false := by decide) : PE X (.Name x pos) (tE Γ Wx (eLit (.tup (ns.map .int)))) := by
  obtain ⟨c, hm, hk⟩ := hm
  exact qe_glob (v := .ref c) hg hm rfl (fun μ H => hk.rep μ H) hd
end
end RB

set_option Elab.async false
set_option linter.all false
set_option maxRecDepth 100000
set_option maxHeartbeats 4000000
namespace RB
open PySem PySem.Spec PyProof.Rows L2
open PySem.W (dataLe TotalLe sameRank EachIs)
section
variable {α : Type} {le : α → α → Bool}
def insB (le : α → α → Bool) (z : α) : List α → List α
  | [] => [z]
  | y :: r => if le z y = true then z :: y :: r else y :: insB le z r
def sortB (le : α → α → Bool) : List α → List α
  | [] => []
  | z :: r => insB le z (sortB le r)
theorem insB_mem {z x : α} : ∀ {l : List α}, x ∈ insB le z l → x = z ∨ x ∈ l
  | [], h => by simp [insB] at h; exact .inl h
  | y :: r, h => by
    unfold insB at h
    split at h
    · simpa using h
    · rcases List.mem_cons.mp h with e | e
      · exact .inr (by simp [e])
      · rcases insB_mem e with e | e
        · exact .inl e
        · exact .inr (by simp [e])
theorem insB_pair (T : TotalLe le) {z : α} : ∀ {l : List α}, l.Pairwise (fun a b => le a b = true) → (insB le z l).Pairwise (fun a b => le a b = true)
  | [], _ => by simp [insB]
  | y :: r, h => by
    have h2 := List.pairwise_cons.mp h
    unfold insB
    split
    · rename_i q
      refine List.pairwise_cons.mpr ⟨fun x hx => ?_, h⟩
      rcases List.mem_cons.mp hx with e | e
      · rw [e]; exact q
      · exact T.trans _ _ _ q (h2.1 x e)
    · rename_i q
      refine List.pairwise_cons.mpr ⟨fun x hx => ?_, insB_pair T h2.2⟩
      rcases insB_mem hx with e | e
      · rw [e]; exact (T.total y z).resolve_right q
      · exact h2.1 x e
theorem insB_filter (T : TotalLe le) {z c : α} : ∀ {l : List α}, (insB le z l).filter (sameRank le c) = (z :: l).filter (sameRank le c)
  | [] => rfl
  | y :: r => by
    unfold insB
    split
    · rfl
    · rename_i q
      rw [List.filter_cons, insB_filter T]
      by_cases hz : sameRank le c z = true
      · have hy : ¬ sameRank le c y = true := fun hy => q (by
          unfold sameRank at hz hy
          rw [Bool.and_eq_true] at hz hy
          exact T.trans _ _ _ hz.2 hy.1)
        rw [if_neg hy, List.filter_cons, List.filter_cons, if_pos hz, List.filter_cons, if_neg hy, if_pos hz]
      · rw [List.filter_cons, if_neg hz, List.filter_cons, if_neg hz, List.filter_cons]
theorem sortB_eq (T : TotalLe le) : ∀ l : List α, sortB le l = l.mergeSort le := fun l => by
  refine PySem.W.sort_unique T ?_ fun c => ?_
  · induction l with
    | nil => exact .nil
    | cons a r ih => exact insB_pair T ih
  · induction l with
    | nil => rfl
    | cons a r ih =>
      show (insB le a (sortB le r)).filter _ = _
      rw [insB_filter T, List.filter_cons, List.filter_cons, ih]
end
def intB : PyData → Bool
  | .int _ => true
  | _ => false
def tupB : PyData → Bool
  | .tuple xs => xs.all intB
  | _ => false
/-- a tuple, not empty, of tuples of ints -/
def nestB : PyData → Bool
  | .tuple (x :: xs) => (x :: xs).all tupB
  | _ => false
theorem alike_intB {d e : PyData} (h : intB d = true) (q : intB e = true) : PySem.W.alike d e = true := by
  cases d <;> cases e <;> first | rfl | (cases h; done) | (cases q; done)
theorem alikeAll_by {f : PyData → Bool} (hf : ∀ d e, f d = true → f e = true → PySem.W.alike d e = true) : ∀ xs ys : List PyData, xs.all f = true → ys.all f = true → PySem.W.alikeAll xs ys = true
  | [], ys, _, _ => by cases ys <;> rfl
  | _ :: _, [], _, _ => rfl
  | x :: xs, y :: ys, h, q => by
    rw [List.all_cons, Bool.and_eq_true] at h q
    show (PySem.W.alike x y && PySem.W.alikeAll xs ys) = true
    rw [hf x y h.1 q.1, alikeAll_by hf xs ys h.2 q.2]; rfl
theorem alike_tupB {d e : PyData} (h : tupB d = true) (q : tupB e = true) : PySem.W.alike d e = true := by
  cases d with
  | tuple xs => cases e with
    | tuple ys => exact alikeAll_by (fun _ _ => alike_intB) xs ys h q
    | _ => cases q
  | _ => cases h
theorem alike_nestB {d e : PyData} (h : nestB d = true) (q : nestB e = true) : PySem.W.alike d e = true := by
  unfold nestB at h q
  split at h
  · split at q
    · exact alikeAll_by (fun _ _ => alike_tupB) _ _ h q
    · cases q
  · cases h
theorem all_alike {ds : List PyData} (h : (ds.all nestB || ds.all intB) = true) : PySem.W.AllAlike ds := by
  intro d h1 e h2
  rw [Bool.or_eq_true] at h
  rcases h with h | h
  · exact alike_nestB (List.all_eq_true.mp h d h1) (List.all_eq_true.mp h e h2)
  · exact alike_intB (List.all_eq_true.mp h d h1) (List.all_eq_true.mp h e h2)
theorem all_sortable {ds : List PyData} (h : (ds.all nestB || ds.all intB) = true) : PySem.W.Sortable ds := by
  rw [Bool.or_eq_true] at h
  rcases h with h | h
  · refine .inl fun d hd => ?_
    have := List.all_eq_true.mp h d hd
    unfold nestB at this
    split at this
    · exact ⟨_, _, rfl⟩
    · cases this
  · refine .inr fun d hd => ?_
    have := List.all_eq_true.mp h d hd
    cases d <;> first | (cases this; done) | exact ⟨(by intro q; cases q), (by intro xs q; cases q)⟩
def rSortD (K : PySem.W.Frag) : List V → Hp → VK → Prop := fun vs H Q => ∃ (a : Addr) (xs : List V) (ds : List PyData), vs = [V.ref a] ∧ SqL K H a xs ∧ DpAll K H xs ds ∧ (ds.all nestB || ds.all intB) = true ∧ PyData.depthAll ds ≤ 9 ∧
  ∀ p, H p = none → Q (.ref p) (upd H p (.lst (((xs.zip ds).mergeSort (dataLe false Prod.snd)).map Prod.fst)))
theorem dpAll_len {K : PySem.W.Frag} {H : Hp} : ∀ {xs : List V} {ds : List PyData}, DpAll K H xs ds → xs.length = ds.length
  | _, _, .nil => rfl
  | _, _, .cons _ h => congrArg (· + 1) (dpAll_len h)
theorem depth_mem {n : Nat} : ∀ {ds : List PyData}, PyData.depthAll ds ≤ n → ∀ d ∈ ds, d.depth ≤ n
  | [], _, d, h => by cases h
  | e :: r, q, d, h => by
    simp only [PyData.depthAll] at q
    rcases List.mem_cons.mp h with e | e
    · subst e; omega
    · exact depth_mem (by omega) d e
section
variable {X : Cx} {Γ : Gm} {Wx : WX}
theorem each_vals : ∀ {out : List Value} {zs : List (V × PyData)}, EachIs (fun (v : Value) (b : V × PyData) => RelV b.1 v) out zs → Vals (zs.map Prod.fst) out
  | _, _, .nil => .nil
  | _, _, .cons h t => .cons h (each_vals t)
theorem each_rel : ∀ {xs : List V} {its : List Value} {ds : List PyData}, Vals xs its → xs.length = ds.length → EachIs (fun (v : Value) (b : V × PyData) => RelV b.1 v) its (xs.zip ds)
  | _, _, [], .nil, _ => .nil
  | _, _, d :: ds, .cons r t, h => .cons r (each_rel t (by simpa using h))
theorem each_reads {pins : List (Addr × Obj)} {s : Shared} {σ : L2.St} {H : Hp} (I : L2.Inv X pins σ H s) : ∀ {xs : List V} {its : List Value} {ds : List PyData}, Vals xs its → DpAll X.K H xs ds → EachIs (fun (v : Value) (b : V × PyData) => ∃ as, Reads s.heap v b.2 as) its (xs.zip ds)
  | _, _, _, .nil, .nil => .nil
  | _, _, _, .cons r t, .cons d dt => .cons (Dp.reads I _ _ _ d r) (each_reads I t dt)
theorem cr_sortD (hu : X.A.units + 64 < cLine) : CallR X (.builtin "sorted") (rSortD X.K) := by
  intro pins s σ H vs us Q I r want
  obtain ⟨a, xs, ds, rfl, hs, hd, hk, hdp, q⟩ := want
  obtain ⟨its, rv, hl, hz⟩ := I.list hs
  rw [Vals.ref1 r]
  have hlen := dpAll_len hd
  have hmap : (xs.zip ds).map Prod.snd = ds := List.map_snd_zip (by omega)
  have hzl : (xs.zip ds).length = xs.length := by rw [List.length_zip]; omega
  refine PySem.W.sorted_data (bs := xs.zip ds) (enc := Prod.snd) (R := fun (v : Value) (b : V × PyData) => RelV b.1 v) hl.isList (each_rel rv hlen) (each_reads I rv hd) ?_ ?_ (by rw [hzl]; exact hz) (fun b hb => ?_) fun out ho he => ?_
  · rw [hmap]; exact all_alike hk
  · rw [hmap]; exact all_sortable hk
  · have : b.2 ∈ ds := by rw [← hmap]; exact List.mem_map_of_mem hb
    have := depth_mem hdp _ this
    omega
  · obtain ⟨ep, he'⟩ := PyProof.Rows.sortedAll_at s.heap its out.toArray
    have hv := each_vals he
    have hlo : (((xs.zip ds).mergeSort (dataLe false Prod.snd)).map Prod.fst).length ≤ sizeLine := by rw [List.length_map, List.length_mergeSort, hzl]; exact hz
    exact ⟨.ref _, upd H (s.heap.objs.size + 1) (.lst (((xs.zip ds).mergeSort (dataLe false Prod.snd)).map Prod.fst)), I.laid (t' := s.toks) (fun _ _ => PyProof.Rows.sortedAll_old) (Nat.le_succ _) ⟨hlo, _, ep, hv, he'⟩, rfl, q _ (I.hok.fresh (Nat.le_succ _))⟩
/-- sorted(xs) -/
def fSortD (ws : List W) (st : Sto) : Res W := match ws with
  | [.ref n] => (match getL st n with
    | some us => (match W.dats 8 us with
      | some ds => if (ds.all nestB || ds.all intB) = true then .ok (.ref st.c.length) (st.push (.lst ((sortB (dataLe false Prod.snd) (us.zip ds)).map Prod.fst))) else .err
      | none => .err)
    | none => .err)
  | _ => .err
theorem sorted_reps {K : PySem.W.Frag} {μ : List Addr} {H : Hp} : ∀ {us : List W} {xs : List V} {ds : List PyData}, Reps K μ H us xs → us.length = ds.length → EachIs (fun (p : W × PyData) (b : V × PyData) => Rep K μ H p.1 b.1 ∧ p.2 = b.2) (us.zip ds) (xs.zip ds)
  | _, _, [], .nil, _ => .nil
  | _, _, d :: ds, .cons r t, h => .cons ⟨r, rfl⟩ (sorted_reps t (by simpa using h))
theorem reps_each {K : PySem.W.Frag} {μ : List Addr} {H : Hp} : ∀ {zs : List (W × PyData)} {ys : List (V × PyData)}, EachIs (fun (p : W × PyData) (b : V × PyData) => Rep K μ H p.1 b.1 ∧ p.2 = b.2) zs ys → Reps K μ H (zs.map Prod.fst) (ys.map Prod.fst)
  | _, _, .nil => .nil
  | _, _, .cons h t => .cons h.1 (reps_each t)
theorem dataLe_total {β : Type} (k : β → PyData) : TotalLe (dataLe false k) := PySem.W.sortLe_total _ _ _
theorem insB_mem2 {α : Type} {le : α → α → Bool} {x : α} : ∀ {l : List α}, x ∈ sortB le l → x ∈ l
  | [], h => h
  | z :: r, h => by
    rcases insB_mem (show x ∈ insB le z (sortB le r) from h) with e | e
    · rw [e]; exact List.mem_cons_self
    · exact List.mem_cons_of_mem _ (insB_mem2 e)
theorem lows_all {n : Nat} : ∀ {ws : List W}, W.lows n ws = true ↔ ∀ w ∈ ws, W.low n w = true
  | [] => by simp [W.lows]
  | w :: r => by simp [W.lows, lows_all (ws := r)]
theorem ok_sortD (hK : X.K = Γ.K) : CallOk Γ (rSortD X.K) fSortD := fun Wx μ σ H st ws xs Q hs hr h => by
  rw [hK]
  unfold fSortD at h
  split at h
  · rename_i n
    split at h
    · rename_i us e1
      split at h
      · rename_i ds e2
        split at h
        · rename_i hq
          cases hr with
          | cons r t =>
            cases t
            obtain ⟨a, zs, rfl, h1, h2⟩ := getL_rep hs e1 r
            obtain ⟨x1, x2, x3⟩ := dats_rep (n := 8) e2 h2
            have hl := dpAll_len x1
            have hl2 := h2.length
            refine ⟨a, zs, ds, rfl, h1, x1, hq, by omega, fun p hp => ?_⟩
            have E2 : Ext Γ.K μ (μ ++ [p]) H (upd H p (.lst (((zs.zip ds).mergeSort (dataLe false Prod.snd)).map Prod.fst))) := ext_new hp
            have key : EachIs (fun (p : W × PyData) (b : V × PyData) => Rep Γ.K μ H p.1 b.1 ∧ p.2 = b.2) ((us.zip ds).mergeSort (dataLe false Prod.snd)) ((zs.zip ds).mergeSort (dataLe false Prod.snd)) := by
              refine PySem.W.sort_each (sorted_reps h2 (by omega)) fun p hp q hq => ?_
              have e1 := ((sorted_reps h2 (by omega)).zip p hp).2
              have e2 := ((sorted_reps h2 (by omega)).zip q hq).2
              show (!PySem.W.dataLt q.1.2 p.1.2) = (!PySem.W.dataLt q.2.2 p.2.2)
              rw [e1, e2]
            have rr := reps_each key
            rw [← sortB_eq (dataLe_total Prod.snd)] at rr
            exact h _ _ _ E2 (hs.new hp ⟨_, upd_same, rr.mono E2⟩ (rr.low (Nat.le_of_eq hs.len))) (.ref (by rw [← hs.len]; simp))
        · exact h.elim
      · exact h.elim
    · exact h.elim
  · exact h.elim
end
end RB

set_option Elab.async false
set_option linter.all false
set_option maxRecDepth 100000
set_option maxHeartbeats 4000000
namespace RB
open PySem PySem.Spec PyProof.Rows L2
structure FnK (Γ : Gm) (P : Program) (w : World) (mg : Str → Option Value) (base : Heap) (k : Nat) (x : Str) (ks : List Str) (F : List W → Sto → Res W) : Prop where
  ex : ∃ (f : Addr) (fd : FuncData), FnOk P w Γ.K mg base (L2.CX P w) k f fd ks (spF Γ ks.length F) ∧ mg x = some (.ref f) ∧ PySem.W.keepIn Γ.K (.ref f) = true ∧ ∀ (s : Shared) (ws : List Value), Γ.K.In s.heap → ws.length = ks.length → BindsTo s fd ⟨[], ks.zip ws⟩ (ks.zip ws)
section
variable {X : Cx} {Γ : Gm} {Wx : WX} {e a b o : Expr} {es : List Expr} {ea eb eo : Ev} {eas : Evs}
theorem call_at {CX : CXT} {k : Nat} {f : Addr} {fd : FuncData} {ps : List Str} {sp : Sp} {E : XK} {pins : List (Addr × Obj)} {σ : L2.St} {H : Hp} {s : Shared} {Q : VK} {us us' : List Value} {kw : List (Str × Value)} {vs : List V}
    (G : FnOk X.prog X.w X.K X.mg X.base CX k f fd ps sp) (room : Room k X.A) (hb : BindsTo s fd ⟨us, kw⟩ (ps.zip us')) (hx : PassesAt CX X σ E) (I : L2.Inv X pins σ H s) (rv : Vals vs us') (want : sp vs H Q E) : wpAny (model X.prog X.w) X.A (call (.ref f) us kw) (EP X pins σ Q) X.xe s := by
  refine wpAny_call (codeAny_mono (G.run X.A X.stack s H ⟨us, kw⟩ us' vs Q E room I.env0 hb rv want) fun res s2 h2 => ?_)
  match res, h2 with
  | .error er, h2 => exact hx pins _ _ er s2 I h2
  | .ok (.ret u), h2 => exact I.after h2
  | .ok .next, h2 => exact h2.elim
  | .ok .brk, h2 => exact h2.elim
  | .ok .cont, h2 => exact h2.elim
theorem qk_nil : PK X [] (tA Γ Wx evNil) := ⟨fun pos pins s σ H Q I ⟨μ, l, st, hs, hl, h⟩ => pk_nil.run pos pins s σ H Q I (h.here hs .nil)⟩
theorem qk_cons {nm : Option Str} {kpos : Pos} {kws : List Keyword} (ha : PE X a (tE Γ Wx ea)) (hr : PK X kws (tA Γ Wx eas)) : PK X (⟨nm, a, kpos⟩ :: kws) (tA Γ Wx (evCons ea eas)) :=
  ⟨fun pos pins s σ H Q I ⟨μ, l, st, hs, hl, h⟩ => (pk_cons ha hr).run pos pins s σ H Q I (tG_bind hs hl h _ fun w st1 μ1 H1 v e1 s1 r1 h1 => tG_bind s1 (hl.mono e1) h1 _ fun ws st2 μ2 H2 vs e2 s2 r2 h2 => h2.here s2 (.cons (r1.mono e2) r2))⟩
/-- f(k = e, ..) -/
theorem qe_callK {k : Nat} {x : Str} {ks : List Str} {F : List W → Sto → Res W} {kws : List Keyword} {p pos : Pos} (G : FnK Γ X.prog X.w X.mg X.base k x ks F) (hK : X.K = Γ.K) (hr : Room k X.A) (tk : Takes X Wx) (hg : Gl X x) (ha : PK X kws (tA Γ Wx eas)) (hlen : evLen ks.length eas)
    (hall : (backToKw pos (keywordEach kws X.env)).all (·.1.isSome) = true := by rfl) (hks : (backToKw pos (keywordEach kws X.env)).filterMap (·.1) = ks := by rfl) (hdb : (x == ("__debug__" : Str)) = false := by decide)
    (hpl : ((backTo pos (starEach [] X.env)).any (·.1) || (backToKw pos (keywordEach kws X.env)).any (·.1.isNone)) = false := by rfl) : PE X (.Call (.Name x p) [] kws pos) (tE Γ Wx (eCall F [] eas)) := by
  obtain ⟨f, fd, G1, hm, hk, hb⟩ := G.ex
  rw [← hK] at G1 hk hb
  refine ⟨fun pins s σ H Q I hh => ?_⟩
  obtain ⟨μ, l, st, hs, hl, h⟩ := hh
  refine wpAny_Call_Name_kw (ld_glob I hg hm ?_ hdb)
  refine PySem.W.callWith_KW0 (h₀ := X.base) I.ok.mod.kin hk hall ?_ hpl
  have hE : tA Γ Wx eas σ H (fun vs H1 => vs.length = ks.length ∧ spF Γ ks.length F vs H1 Q (WE Wx σ)) := by
    refine ⟨μ, l, st, hs, hl, ?_⟩
    unfold eCall at h
    cases ee : eas l st with
    | err => rw [ee] at h; exact h
    | exc c p st1 => rw [ee] at h; exact h
    | ok ws st1 =>
      rw [ee] at h
      have hl2 := hlen l st ws st1 ee
      intro μ1 H1 vs e1 s1 r1
      have := spF_run (np := ks.length) (dvs := []) (dws := []) s1 r1 .nil (by rw [List.append_nil]; exact hl2) (Post.mono (show Post Γ Wx (Rep Γ.K) μ σ H Q (F (ws ++ []) st1) from h) e1)
      rw [List.append_nil] at this
      exact ⟨by rw [← r1.length]; exact hl2, this⟩
  refine thn (ha.run pos pins s σ H _ I hE) fun ws s2 ⟨zs, H2, I2, rz, l2, q2⟩ => ⟨I2.kIn, ?_⟩
  rw [hks]
  exact call_at G1 hr (hb s2 ws I2.kIn (rz.length.symm.trans l2)) (passAt tk σ) I2 rz q2
end
end RB

set_option Elab.async false
set_option linter.all false
set_option maxRecDepth 100000
set_option maxHeartbeats 4000000
namespace RPm
open PySem PySem.Spec
open Sem (wp)

theorem mro_pm : mroOf (.type "itertools.permutations") = pure [.type "itertools.permutations", .type "object"] := by rw [mroOf_type]; kernel_rfl
theorem lookup_new : typeLookup (.type "itertools.permutations") "__new__" = pure (some (.builtin "itertools.permutations.__new__")) := by rw [typeLookup_type, builtinLookup_eq_fast]; kernel_rfl
theorem slot_init : Slot "itertools.permutations" "__init__" "object.__init__" :=
  .of (owner := "object") (n := "__init__") (by rw [typeLookup_type, builtinLookup_eq_fast]; kernel_rfl) (by decide +kernel) (by decide +kernel) (by decide +kernel)
    (by first | exact .inl (by decide +kernel) | exact .inr (by decide +kernel)) (by rw [isSubtype_type]; kernel_rfl)
theorem sub_pm : isSubtype (.type "itertools.permutations") (.type "itertools.permutations") = pure true := by rw [isSubtype_type]; kernel_rfl
theorem called_pm : TypeCalled "itertools.permutations" "itertools.permutations.__new__" "object.__init__" :=
  ⟨by decide +kernel, by decide +kernel, ⟨_, _, mro_pm⟩, madeBy_type mro_pm lookup_new (by decide +kernel), by decide +kernel, sub_pm, slot_init⟩
theorem typeCall_1 (a : Value) : checkTypeCall "itertools.permutations" ⟨[a], []⟩ = pure () := by kernel_rfl
theorem newCall_1 (a : Value) : checkBuiltinCall "itertools.permutations.__new__" ⟨[.type "itertools.permutations", a], []⟩ = pure () := by kernel_rfl
theorem entry_new : entryFor table "itertools.permutations.__new__" = some Builtin.«itertools.permutations.__new__» := entryFor_of_tree (by kernel_rfl)
theorem slot_iter : Slot "itertools.permutations" "__iter__" "itertools.permutations.__iter__" :=
  .of (owner := "itertools.permutations") (n := "__iter__") (by rw [typeLookup_type, builtinLookup_eq_fast]; kernel_rfl) (by decide +kernel) (by decide +kernel) (by decide +kernel)
    (by first | exact .inl (by decide +kernel) | exact .inr (by decide +kernel)) sub_pm
theorem slot_next : Slot "itertools.permutations" "__next__" "itertools.permutations.__next__" :=
  .of (owner := "itertools.permutations") (n := "__next__") (by rw [typeLookup_type, builtinLookup_eq_fast]; kernel_rfl) (by decide +kernel) (by decide +kernel) (by decide +kernel)
    (by first | exact .inl (by decide +kernel) | exact .inr (by decide +kernel)) sub_pm
theorem entry_iter : entryFor table "itertools.permutations.__iter__" = some Builtin.«dict_keyiterator.__iter__» :=
  entryFor_alias (id' := "dict_keyiterator.__iter__") (by kernel_rfl) (by first | rfl | decide +kernel | (unfold String.splitOn; simp +decide [String.splitOnAux])) (by decide +kernel) (by kernel_rfl)
theorem entry_next : entryFor table "itertools.permutations.__next__" = some Builtin.«itertools.permutations.__next__» := entryFor_of_tree (by kernel_rfl)
theorem owner_pm : Manifest.owners.lookup (String.ofList "itertools.permutations".toList.reverse.reverse) = some Manifest.sig_itertools_permutations := by kernel_rfl
theorem args_iter (a : Value) : argsOk "itertools.permutations.__iter__" ⟨[a], []⟩ := by
  unfold argsOk; rw [signature?_of (id := "itertools.permutations.__iter__") (n := ['_', '_', 'r', 'e', 't', 'i', '_', '_']) (o := "itertools.permutations".toList.reverse) (by kernel_rfl) owner_pm]; kernel_rfl
theorem args_next (a : Value) : argsOk "itertools.permutations.__next__" ⟨[a], []⟩ := by
  unfold argsOk; rw [signature?_of (id := "itertools.permutations.__next__") (n := ['_', '_', 't', 'x', 'e', 'n', '_', '_']) (o := "itertools.permutations".toList.reverse) (by kernel_rfl) owner_pm]; kernel_rfl
theorem noDict_pm : typeHasDict (.type "itertools.permutations") = false := by decide +kernel
theorem no_len : typeLookup (.type "itertools.permutations") "__len__" = pure none := by rw [typeLookup_type, builtinLookup_eq_fast]; kernel_rfl
theorem no_hint : typeLookup (.type "itertools.permutations") "__length_hint__" = pure none := by rw [typeLookup_type, builtinLookup_eq_fast]; kernel_rfl

/-- the object -/
def pmObj (T : Addr) (ph n : Nat) (r : Value) (xs ys : List Nat) : Obj :=
  { cls := .type "itertools.permutations", dict := none, data := .fields ([Value.ref T, .int ph 0, .int n 0, r] ++ (xs ++ ys).map fun i : Nat => Value.int i 0).toArray, slots := #[] }
def downFrom : Nat → List Nat
  | 0 => []
  | n + 1 => (n + 1) :: downFrom n
end RPm

set_option Elab.async false
set_option linter.all false
set_option maxRecDepth 100000
set_option maxHeartbeats 4000000
namespace RPm
open PySem PySem.Spec PyProof.Rows L2
open Sem (wp)
theorem rec_new {prog : Program} {w : World} {A : Around} {s : Shared} {Q : PySem.Fin → Shared → Prop} {E : Value → Shared → Prop} (xs : List Value) (hz : xs.length ≤ 4) (mk : Value → List Value) (hm : ∀ t, (mk t).length ≤ 12)
    (h : Q (.done (.ret (.ref (s.heap.objs.size + 1)))) { s with heap := (s.heap.push { cls := .type "tuple", data := .seq xs.toArray }).push { cls := .type "itertools.permutations", data := .fields (mk (.ref s.heap.objs.size)).toArray } }) :
    wpAny (model prog w) A (newTuple xs >>= fun t => Builtin.Itertools.itNewRecord (.type "itertools.permutations") (mk t) >>= fun o => ret o) Q E s := by
  refine wpAny_bind ?_
  simp only [newTuple]
  refine wpAny_newObj_type ?_ (by show xs.toArray.size ≤ _; rw [List.size_toArray, sizeLine_eq]; omega)
  refine wpAny_bind ?_
  unfold Builtin.Itertools.itNewRecord
  rw [if_pos (by rw [noDict_pm]; rfl)]
  refine wpAny_newObj_type ?_ (by have := hm (.ref s.heap.objs.size); show (mk _).toArray.size ≤ _; rw [List.size_toArray, sizeLine_eq]; omega)
  rw [Heap.size_push]
  exact wpAny_pure h
theorem tooMany {n : Nat} (h : n ≤ 4) : ¬ (Builtin.Itertools.itTooMany (n : Int) = true) := by
  unfold Builtin.Itertools.itTooMany
  rw [decide_eq_true_eq]
  have : (2 : Int) ^ 20 = 1048576 := by decide
  omega
theorem downs (n : Nat) : (List.range n).map (fun i : Nat => Value.int ((n : Int) - (i : Int)) 0) = (downFrom n).map fun i : Nat => Value.int i 0 := by
  induction n with
  | zero => rfl
  | succ n ih =>
    rw [List.range_succ_eq_map, List.map_cons, List.map_map]
    show _ = Value.int ((n + 1 : Nat) : Int) 0 :: (downFrom n).map _
    rw [← ih]
    congr 1
    refine List.map_congr_left fun i _ => ?_
    show Value.int (((n + 1 : Nat) : Int) - ((i + 1 : Nat) : Int)) 0 = _
    congr 1
    push_cast
    omega
end RPm

set_option Elab.async false
set_option linter.all false
set_option maxRecDepth 100000
set_option maxHeartbeats 4000000
namespace RPm
open PySem PySem.Spec PyProof.Rows L2
open Sem (wp)
theorem none_of {h h' : Heap} (k : ∀ b o, h.get? b = some o → h'.get? b = some o) {a : Addr} (ha : h'.objs.size ≤ a) : h.get? a = none := by
  cases e : h.get? a with
  | none => rfl
  | some o => exact absurd (Heap.lt_size (k a o e)) (Nat.not_lt.mpr ha)
theorem meets_new (a : Addr) (items : Array Value) (k : Nat) (hz : items.size ≤ 4) :
    Meets (Builtin.«itertools.permutations.__new__» ⟨[.type "itertools.permutations", .ref a], []⟩)
      (fun _ R s => s.heap.get? a = some { cls := .type "list", dict := none, data := .seq items k, slots := #[] } ∧
        ∀ h' T I, (∀ b o, s.heap.get? b = some o → h'.get? b = some o) → s.heap.get? T = none → s.heap.get? I = none → T < I → IsTup h' T items → h'.get? I = some (pmObj T 0 items.size .none (List.range items.size) (downFrom items.size)) → R (.ok (.ret (.ref I))) { s with heap := h' }) :=
  .of_wp fun prog w A R s h => by
    obtain ⟨hp, g, dd, tk, os⟩ := s
    obtain ⟨ho, h⟩ := h
    have hsub : isSubtype (.type "itertools.permutations") (.type ("itertools." ++ "permutations")) = pure true := sub_pm
    have hd := noDict_pm
    unfold Builtin.«itertools.permutations.__new__»
    refine wpAny_bind ?_
    unfold Builtin.Itertools.itClassAndRest
    repeat (first
      | (with_reducible refine wpAny_collect_seq (hsz := by rw [sizeLine_eq]; omega) a (.inl rfl) ho rfl rfl (fun h1 hk => ?_))
      | wp_step
      | simp only [List.head?_cons, Option.some_or, List.getElem?_cons_succ, List.getElem?_cons_zero, List.length_cons, List.length_nil, List.forIn_nil])
    rw [if_neg (tooMany (by rw [Array.length_toList]; exact hz))]
    refine rec_new items.toList (by rw [Array.length_toList]; exact hz) _ (fun t => by simp; omega) ?_
    refine ⟨_, rfl, h _ h1.objs.size (h1.objs.size + 1) (fun b o e => Heap.get?_push_of_some _ (Heap.get?_push_of_some _ (hk b o e))) (none_of hk (Nat.le_refl _)) (none_of hk (Nat.le_succ _)) (Nat.lt_succ_self _) ?_ ?_⟩
    · exact (IsTup.new h1 items).push _
    · have e : (h1.push { cls := .type "tuple", data := .seq items.toList.toArray }).objs.size = h1.objs.size + 1 := Heap.size_push ..
      rw [← e]
      rw [Heap.get?_push_size _ rfl]
      unfold pmObj
      simp [rawInt, ← downs]
end RPm

set_option Elab.async false
set_option linter.all false
set_option maxRecDepth 100000
set_option maxHeartbeats 4000000
namespace RPm
open PySem PySem.Spec PyProof.Rows L2
open Sem (wp)
section
variable {prog : Program} {w : World} {A : Around} {E : Value → Shared → Prop} {s : Shared} {I T : Addr} {n ph : Nat} {r : Value} {xs ys : List Nat} {items : Array Value}
theorem iter_pm {Q : Value → Shared → Prop} (ho : s.heap.get? I = some (pmObj T ph n r xs ys)) (h : Q (.ref I) s) : wpAny (model prog w) A (pyIter (.ref I)) Q E s := by
  have hT : s.TypeIs (.ref I) "itertools.permutations" := ⟨_, ho, rfl⟩
  refine wpAny_pyIter_slot hT slot_iter (wpAny_call_entry slot_iter hT entry_iter ?_ (args_iter _))
  show wpAny _ _ (ret (.ref I)) _ _ s
  exact wpAny_pure ⟨_, rfl, "itertools.permutations", _, hT, slot_next.lookup, h⟩
def pick (items : Array Value) (ix : List Nat) : Array Value := (ix.map fun i => items.getD i .none).toArray
theorem nums_at {a b c r : Value} {l : List Nat} : ((([a, b, c, r] ++ l.map fun i : Nat => Value.int i 0).toArray.toList.drop 4).map fun | .int n _ => n.toNat | _ => 0) = l := by
  show ((l.map fun i : Nat => Value.int i 0).map fun | .int n _ => n.toNat | _ => 0) = l
  rw [List.map_map]
  induction l with
  | nil => rfl
  | cons x l ih => show x :: _ = _; rw [ih]
/-- the tuple is handed out -/
theorem give_pm {Q : PySem.Fin → Shared → Prop} {ix : List Nat} (ho : s.heap.get? I = some (pmObj T 1 n r xs ys)) (hx : ix.length ≤ 4)
    (hQ : ∀ h', h'.get? I = some (pmObj T 1 n (.ref s.heap.objs.size) xs ys) → h'.get? s.heap.objs.size = some { cls := .type "tuple", data := .seq (pick items ix) } → h'.objs.size = s.heap.objs.size + 1 → (∀ b o, b ≠ I → s.heap.get? b = some o → h'.get? b = some o) → Q (.done (.ret (.ref s.heap.objs.size))) { s with heap := h' }) :
    wpAny (model prog w) A (do let t ← newTuple (ix.map fun i => items.getD i .none); let before ← field (.ref I) 3; setField (.ref I) 3 t; letGo [before] [t]; ret t) Q E s := by
  have hlt := Heap.lt_size ho
  refine wpAny_bind ?_
  simp only [newTuple]
  refine wpAny_newObj_type ?_ (by show (ix.map _).toArray.size ≤ _; rw [List.size_toArray, List.length_map, sizeLine_eq]; omega)
  have ho1 := Heap.get?_push_of_some { cls := .type "tuple", data := .seq (pick items ix) } ho
  refine wpAny_bind (wpAny_field (s := { s with heap := s.heap.push { cls := .type "tuple", data := .seq (pick items ix) } }) ho1 rfl (x := r) rfl ?_)
  refine wpAny_bind (wpAny_setField (s := { s with heap := s.heap.push { cls := .type "tuple", data := .seq (pick items ix) } }) ho1 rfl (by simp) ?_)
  refine wpAny_bind (wpAny_letGo ?_)
  refine wpAny_pure (hQ _ ?_ ?_ ?_ ?_)
  · refine (Heap.get?_update_self _ ho1 rfl).trans ?_
    congr 1
  · exact (Heap.get?_update_other _ _ (Nat.ne_of_lt hlt)).trans (Heap.get?_push_size _ rfl)
  · rw [Heap.size_update, Heap.size_push]
  · intro b o hb e
    exact (Heap.get?_update_other _ _ (Ne.symm hb)).trans (Heap.get?_push_of_some _ e)
theorem next_0 {Q : Option Value → Shared → Prop} (ho : s.heap.get? I = some (pmObj T 0 n r xs ys)) (hi : IsTup s.heap T items) (hn : items.size = n) (hx : xs.length = n) (hn4 : n ≤ 4)
    (hQ : ∀ h', h'.get? I = some (pmObj T 1 n (.ref s.heap.objs.size) xs ys) → h'.get? s.heap.objs.size = some { cls := .type "tuple", data := .seq (pick items xs) } → h'.objs.size = s.heap.objs.size + 1 → (∀ b o, b ≠ I → s.heap.get? b = some o → h'.get? b = some o) → Q (some (.ref s.heap.objs.size)) { s with heap := h' }) :
    wpAny (model prog w) A (pyNext (.ref I)) Q E s := by
  have hT : s.TypeIs (.ref I) "itertools.permutations" := ⟨_, ho, rfl⟩
  unfold pyNext
  refine wpAny_bind (wpAny_attempt (wpAny_callSpecial?_slot (name := Str.ofString "__next__") hT slot_next
    (wpAny_call_entry slot_next hT entry_next ?_ (args_next _))))
  unfold Builtin.«itertools.permutations.__next__»
  refine wpAny_bind (wpAny_pure ?_)
  show wpAny _ _ (field (.ref I) 0 >>= _) _ _ s
  refine wpAny_bind (wpAny_field ho rfl (x := .ref T) rfl ?_)
  obtain ⟨oT, hoT, hcT, kT, hdT⟩ := id hi
  refine wpAny_bind ?_
  unfold Builtin.Itertools.itPoolItems
  refine wpAny_bind (wpAny_seqItems hoT hdT (wpAny_pure ?_))
  refine wpAny_bind ?_
  unfold Builtin.Itertools.itIntField
  refine wpAny_bind (wpAny_field ho rfl (x := .int n 0) rfl (wpAny_pure ?_))
  refine wpAny_bind ?_
  unfold Builtin.Itertools.itNumbersFrom
  refine wpAny_bind (wpAny_load ho ?_)
  refine wpAny_pure ?_
  refine wpAny_bind ?_
  refine wpAny_bind (wpAny_field ho rfl (x := .int 0 0) rfl (wpAny_pure ?_))
  dsimp only
  refine wpAny_bind (wpAny_setField ho rfl (by simp) ?_)
  generalize hg : List.map _ (List.drop 4 _) = nums
  have hnums : nums = xs ++ ys := hg.symm.trans nums_at
  rw [hnums, Int.toNat_natCast, List.take_append_of_le_length (by omega), ← hx, List.take_length]
  have ho1 : (s.heap.update I (Obj.mapFields fun x => x.setIfInBounds 1 (rawInt 1))).get? I = some (pmObj T 1 n r xs ys) := by
    refine (Heap.get?_update_self _ ho rfl).trans ?_
    congr 1
  refine give_pm (s := { s with heap := s.heap.update I (Obj.mapFields fun x => x.setIfInBounds 1 (rawInt 1)) }) (items := items) (ix := xs) ho1 (by omega) fun h' q1 q2 q3 q4 => ?_
  have hsz : (s.heap.update I (Obj.mapFields fun x => x.setIfInBounds 1 (rawInt 1))).objs.size = s.heap.objs.size := Heap.size_update ..
  dsimp only at q1 q2 q3 q4 ⊢
  rw [hsz] at q1 q2 q3 ⊢
  refine ⟨_, rfl, wpAny_pure (hQ h' q1 q2 q3 fun b o hb e => q4 b o hb ((Heap.get?_update_other _ _ (Ne.symm hb)).trans e))⟩
end
end RPm

set_option Elab.async false
set_option linter.all false
set_option maxRecDepth 100000
set_option maxHeartbeats 4000000
namespace RPm
open PySem PySem.Spec PyProof.Rows L2
open Sem (wp)
/-- what remains to be handed out -/
inductive Ch (f : Nat → Nat → List Nat → List Nat → Option (List Nat × List Nat)) (n : Nat) : List Nat → List Nat → List (List Nat) → Prop
  | nil {xs ys : List Nat} : f n n xs ys = none → Ch f n xs ys []
  | cons {xs ys xs' ys' : List Nat} {l : List (List Nat)} : f n n xs ys = some (xs', ys') → xs'.length = n → ys'.length ≤ 4 → Ch f n xs' ys' l → Ch f n xs ys (xs' :: l)
def pmTail : Nat → List (List Nat)
  | 2 => [[1, 0]]
  | 3 => [[0, 2, 1], [1, 0, 2], [1, 2, 0], [2, 0, 1], [2, 1, 0]]
  | 4 => [[0, 1, 3, 2], [0, 2, 1, 3], [0, 2, 3, 1], [0, 3, 1, 2], [0, 3, 2, 1], [1, 0, 2, 3], [1, 0, 3, 2], [1, 2, 0, 3], [1, 2, 3, 0], [1, 3, 0, 2], [1, 3, 2, 0],
    [2, 0, 1, 3], [2, 0, 3, 1], [2, 1, 0, 3], [2, 1, 3, 0], [2, 3, 0, 1], [2, 3, 1, 0], [3, 0, 1, 2], [3, 0, 2, 1], [3, 1, 0, 2], [3, 1, 2, 0], [3, 2, 0, 1], [3, 2, 1, 0]]
  | _ => []
theorem next_1 : ∃ f : Nat → Nat → List Nat → List Nat → Option (List Nat × List Nat),
    (∀ (prog : Program) (w : World) (A : Around) (E : Value → Shared → Prop) (s : Shared) (I T : Addr) (n : Nat) (r : Value) (xs ys : List Nat) (items : Array Value) (Q : Option Value → Shared → Prop),
      A.handled = none → s.heap.get? I = some (pmObj T 1 n r xs ys) → IsTup s.heap T items → items.size = n → xs.length = n → n ≤ 4 →
      (∀ xs' ys', f n n xs ys = some (xs', ys') → xs'.length = n ∧ ys'.length ≤ 4 ∧ ∀ h', h'.get? I = some (pmObj T 1 n (.ref s.heap.objs.size) xs' ys') → h'.get? s.heap.objs.size = some { cls := .type "tuple", data := .seq (pick items xs') } → h'.objs.size = s.heap.objs.size + 1 →
        (∀ b o, b ≠ I → s.heap.get? b = some o → h'.get? b = some o) → Q (some (.ref s.heap.objs.size)) { s with heap := h' }) →
      (f n n xs ys = none → ∀ h', Heap.ExtBut I s.heap h' → Q none { s with heap := h' }) →
      wpAny (model prog w) A (pyNext (.ref I)) Q E s) ∧
    (∀ n, n ≤ 4 → Ch f n (List.range n) (downFrom n) (pmTail n)) := by
  apply Exists.intro
  constructor
  · intro prog w A E s I T n r xs ys items Q hh ho hi hn hx hn4 hS hN
    have hT : s.TypeIs (.ref I) "itertools.permutations" := ⟨_, ho, rfl⟩
    unfold pyNext
    refine wpAny_bind (wpAny_attempt (wpAny_callSpecial?_slot (name := Str.ofString "__next__") hT slot_next
      (wpAny_call_entry slot_next hT entry_next ?_ (args_next _))))
    unfold Builtin.«itertools.permutations.__next__»
    refine wpAny_bind (wpAny_pure ?_)
    show wpAny _ _ (field (.ref I) 0 >>= _) _ _ s
    refine wpAny_bind (wpAny_field ho rfl (x := .ref T) rfl ?_)
    obtain ⟨oT, hoT, hcT, kT, hdT⟩ := id hi
    refine wpAny_bind ?_
    unfold Builtin.Itertools.itPoolItems
    refine wpAny_bind (wpAny_seqItems hoT hdT (wpAny_pure ?_))
    refine wpAny_bind ?_
    unfold Builtin.Itertools.itIntField
    refine wpAny_bind (wpAny_field ho rfl (x := .int n 0) rfl (wpAny_pure ?_))
    refine wpAny_bind ?_
    unfold Builtin.Itertools.itNumbersFrom
    refine wpAny_bind (wpAny_load ho ?_)
    refine wpAny_pure ?_
    refine wpAny_bind ?_
    refine wpAny_bind (wpAny_field ho rfl (x := .int 1 0) rfl (wpAny_pure ?_))
    dsimp only
    generalize hg : List.map _ (List.drop 4 _) = nums
    have hnums : nums = xs ++ ys := hg.symm.trans nums_at
    rw [hnums, Int.toNat_natCast, hn, List.take_append_of_le_length (by omega), ← hx, List.take_length, List.drop_left]
    rw [hx]
    split
    · rename_i e; exact absurd e (by decide)
    · split
      · rename_i xs' ys' hf
        obtain ⟨hl, hl2, hS⟩ := hS xs' ys' hf
        refine wpAny_bind ?_
        unfold Builtin.Itertools.itSetNumbersFrom
        refine wpAny_updateFields ho rfl ?_ ?_
        · have ho1 : (s.heap.update I (Obj.mapFields fun fs => fs.extract 0 4 ++ (List.map (fun n : Nat => rawInt ↑n) (xs' ++ ys')).toArray)).get? I = some (pmObj T 1 n r xs' ys') := by
            refine (Heap.get?_update_self _ ho rfl).trans ?_
            congr 1
            unfold pmObj Obj.mapFields
            simp [rawInt]
          rw [← hl, List.take_length]
          refine give_pm (s := { s with heap := s.heap.update I (Obj.mapFields fun fs => fs.extract 0 4 ++ (List.map (fun n : Nat => rawInt ↑n) (xs' ++ ys')).toArray) }) (items := items) (ix := xs') ho1 (by omega) fun h' q1 q2 q3 q4 => ?_
          have hsz : (s.heap.update I (Obj.mapFields fun fs => fs.extract 0 4 ++ (List.map (fun n : Nat => rawInt ↑n) (xs' ++ ys')).toArray)).objs.size = s.heap.objs.size := Heap.size_update ..
          dsimp only at q1 q2 q3 q4 ⊢
          rw [hsz] at q1 q2 q3 ⊢
          exact ⟨_, rfl, wpAny_pure (hS h' q1 q2 q3 fun b o hb e => q4 b o hb ((Heap.get?_update_other _ _ (Ne.symm hb)).trans e))⟩
        · simp [sizeLine_eq]
          omega
      · rename_i hf
        have hN := hN hf
        refine wpAny_bind (wpAny_setField ho rfl (by simp) ?_)
        unfold Builtin.Itertools.itStop
        refine wpAny_bind ?_
        simp only [newExc, newTuple]
        refine wpAny_bind (wpAny_newObj_type ?_ (by size_fits))
        refine wpAny_bind (m := firstArgMember _ _) (wpAny_of_eq (a := Value.none) (by first | rfl | (simp only [firstArgMember]; rfl)) ?_)
        refine wpAny_newObj_type ?_ (by size_fits)
        simp only [raiseNew]
        refine wpAny_bind (wpAny_handled ?_)
        rw [show A.in1.handled = none from hh]
        refine wpAny_bind (wpAny_pure (wpAny_throw ?_))
        refine wpAny_bind (wpAny_isInstance (T := "StopIteration") (b := true) ⟨_, Heap.get?_push_size _ rfl, rfl⟩ isSubtype_stop ?_)
        exact wpAny_pure (hN _ (((Heap.SameBut.update ..).extBut.push _).push _))
    · rename_i e1 e2; exact absurd rfl e2
  · intro n h
    have : n = 0 ∨ n = 1 ∨ n = 2 ∨ n = 3 ∨ n = 4 := by omega
    rcases this with rfl | rfl | rfl | rfl | rfl
    · exact .nil rfl
    · exact .nil rfl
    · exact .cons rfl rfl (by decide) (.nil rfl)
    · exact .cons rfl rfl (by decide) (.cons rfl rfl (by decide) (.cons rfl rfl (by decide) (.cons rfl rfl (by decide) (.cons rfl rfl (by decide) (.nil rfl)))))
    · repeat (first | exact .nil rfl | refine .cons rfl rfl (by decide) ?_)
end RPm

set_option Elab.async false
set_option linter.all false
set_option maxRecDepth 100000
set_option maxHeartbeats 4000000
namespace RPm
open PySem PySem.Spec PyProof.Rows L2
open Sem (wp)
structure Md (items : Array Value) (S I : Addr) (h : Heap) (dn : List (List Nat)) (as : List Addr) : Prop where
  len : as.length = dn.length
  rise : as.Pairwise (· < ·)
  above : ∀ a ∈ as, I < a ∧ S < a
  at' : ∀ (j : Nat) (a : Addr) (ix : List Nat), as[j]? = some a → dn[j]? = some ix → h.get? a = some { cls := .type "tuple", data := .seq (pick items ix) }
theorem Md.there {items : Array Value} {S I : Addr} {h : Heap} {dn : List (List Nat)} {as : List Addr} (g : Md items S I h dn as) {a : Addr} (ha : a ∈ as) : a < h.objs.size := by
  obtain ⟨j, hj⟩ := List.mem_iff_getElem?.mp ha
  have h1 := (List.getElem?_eq_some_iff.mp hj).1
  rw [g.len] at h1
  exact Heap.lt_size (g.at' j a _ hj (List.getElem?_eq_getElem h1))
theorem Md.keep {items : Array Value} {S I : Addr} {h h' : Heap} {dn : List (List Nat)} {as : List Addr} (g : Md items S I h dn as) (k : ∀ b o, b ≠ S → b ≠ I → h.get? b = some o → h'.get? b = some o) : Md items S I h' dn as :=
  ⟨g.len, g.rise, g.above, fun j a ix h1 h2 => k a _ (Nat.ne_of_gt (g.above a (List.mem_of_getElem? h1)).2) (Nat.ne_of_gt (g.above a (List.mem_of_getElem? h1)).1) (g.at' j a ix h1 h2)⟩
section
variable {prog : Program} {w : World} {A : Around} {s : Shared} {R : Result → Shared → Prop} {items : Array Value} {S I T : Addr} {n : Nat}
theorem step_pm (res : Value) (hSI : S ≠ I) {h : Heap} {tk c : Nat} {acc : Array Value} {as : List Addr} {dn : List (List Nat)} {xs' ys' : List Nat} (hS : h.get? S = some { cls := .type "list", dict := none, data := .seq acc c, slots := #[] })
    (hacc : acc.toList = as.map Value.ref) (hG : Md items S I h dn as) (hI : ∃ o, h.get? I = some o) (hal : as.length ≤ 30)
    (hnext : ∀ (Q : Option Value → Shared → Prop) (E : Value → Shared → Prop), (∀ h', h'.get? I = some (pmObj T 1 n (.ref h.objs.size) xs' ys') → h'.get? h.objs.size = some { cls := .type "tuple", data := .seq (pick items xs') } → h'.objs.size = h.objs.size + 1 →
      (∀ b o, b ≠ I → h.get? b = some o → h'.get? b = some o) → Q (some (.ref h.objs.size)) { s with heap := h', toks := tk }) → wpAny (model prog w) A.in1 (pyNext (.ref I)) Q E { s with heap := h, toks := tk })
    (hk : ∀ (h' : Heap) (c' : Nat), h'.get? S = some { cls := .type "list", dict := none, data := .seq (acc.push (.ref h.objs.size)) c', slots := #[] } → h'.get? I = some (pmObj T 1 n (.ref h.objs.size) xs' ys') →
      (∀ b o, b ≠ S → b ≠ I → h.get? b = some o → h'.get? b = some o) → Md items S I h' (dn ++ [xs']) (as ++ [h.objs.size]) → codeAny (model prog w) A (.builtin "list.extend.loop" ⟨[.ref S, .ref I, res], []⟩) R { s with heap := h', toks := tk }) :
    codeAny (model prog w) A (.builtin "list.extend.loop" ⟨[.ref S, .ref I, res], []⟩) R { s with heap := h, toks := tk } := by
  have hsz : acc.size = as.length := by rw [← Array.length_toList, hacc, List.length_map]
  obtain ⟨oI, hI⟩ := hI
  have hSl := Heap.lt_size hS
  have hIl := Heap.lt_size hI
  refine codeAny_builtin PySem.F.entry_extend_loop ?_
  rw [Around.under_plainId PySem.F.plain_extend_loop _]
  show wpAny _ A.in1 (pyNext (.ref I) >>= _) _ _ _
  refine wpAny_bind (hnext _ _ fun h' q1 q2 q3 q4 => ?_)
  have hS' := q4 S _ hSI hS
  show wpAny _ A.in1 (updateSeq S (·.push (Value.ref h.objs.size)) >>= _) _ _ _
  have up : ∀ b o, b ≠ S → h'.get? b = some o → (h'.update S (Obj.mapSeq (·.push (Value.ref h.objs.size)))).get? b = some o := fun b o hb e => (Heap.get?_update_other _ _ (Ne.symm hb)).trans e
  refine wpAny_bind ?_
  refine wpAny_updateSeq hS' rfl (wpAny_pure ⟨plainId_quiet PySem.F.plain_extend_loop _, hk _ _ (Heap.get?_update_self _ hS' rfl) (up I _ (Ne.symm hSI) q1) (fun b o h1 h2 e => up b o h1 (q4 b o h2 e)) ⟨?_, ?_, ?_, ?_⟩⟩) (by rw [hsz, sizeLine_eq]; omega) (by show (acc.push (Value.ref h.objs.size)).size ≤ sizeLine + 1; rw [Array.size_push, hsz, sizeLine_eq]; omega)
  · rw [List.length_append, List.length_append, hG.len]; rfl
  · refine List.pairwise_append.mpr ⟨hG.rise, List.pairwise_singleton _ _, fun a ha b hb => ?_⟩
    rw [List.mem_singleton.mp hb]
    exact hG.there ha
  · intro a ha
    rcases List.mem_append.mp ha with ha | ha
    · exact hG.above a ha
    · rw [List.mem_singleton.mp ha]; exact ⟨hIl, hSl⟩
  · intro j b ix hj hd
    rcases Nat.lt_trichotomy j as.length with h1 | h1 | h1
    · rw [List.getElem?_append_left h1] at hj
      rw [List.getElem?_append_left (by rw [← hG.len]; exact h1)] at hd
      have hb := hG.above b (List.mem_of_getElem? hj)
      exact up b _ (Nat.ne_of_gt hb.2) (q4 b _ (Nat.ne_of_gt hb.1) (hG.at' j b ix hj hd))
    · subst h1
      have hb : h.objs.size = b := by simpa using hj
      have hx : xs' = ix := by rw [hG.len] at hd; simpa using hd
      subst hb hx
      exact up _ _ (Nat.ne_of_gt hSl) q2
    · have hnone : (as ++ [h.objs.size])[j]? = none := List.getElem?_eq_none (by rw [List.length_append, List.length_singleton]; omega)
      rw [hnone] at hj; cases hj
variable {f : Nat → Nat → List Nat → List Nat → Option (List Nat × List Nat)}
abbrev NextSpec (f : Nat → Nat → List Nat → List Nat → Option (List Nat × List Nat)) : Prop :=
    (∀ (prog : Program) (w : World) (A : Around) (E : Value → Shared → Prop) (s : Shared) (I T : Addr) (n : Nat) (r : Value) (xs ys : List Nat) (items : Array Value) (Q : Option Value → Shared → Prop),
      A.handled = none → s.heap.get? I = some (pmObj T 1 n r xs ys) → IsTup s.heap T items → items.size = n → xs.length = n → n ≤ 4 →
      (∀ xs' ys', f n n xs ys = some (xs', ys') → xs'.length = n ∧ ys'.length ≤ 4 ∧ ∀ h', h'.get? I = some (pmObj T 1 n (.ref s.heap.objs.size) xs' ys') → h'.get? s.heap.objs.size = some { cls := .type "tuple", data := .seq (pick items xs') } → h'.objs.size = s.heap.objs.size + 1 →
        (∀ b o, b ≠ I → s.heap.get? b = some o → h'.get? b = some o) → Q (some (.ref s.heap.objs.size)) { s with heap := h' }) →
      (f n n xs ys = none → ∀ h', Heap.ExtBut I s.heap h' → Q none { s with heap := h' }) →
      wpAny (model prog w) A (pyNext (.ref I)) Q E s)
theorem loop_pm (sp : NextSpec f) (res : Value) (hh : A.handled = none) (hSI : S ≠ I) (hTS : T ≠ S) (hTI : T ≠ I) (hn : items.size = n) (hn4 : n ≤ 4) {h₁ : Heap} {tk : Nat} {L : List (List Nat)} (hL : L.length ≤ 30)
    (hR : ∀ h' acc c as, (∀ b o, b ≠ S → b ≠ I → h₁.get? b = some o → h'.get? b = some o) → h'.get? S = some { cls := .type "list", dict := none, data := .seq acc c, slots := #[] } → acc.toList = as.map Value.ref → Md items S I h' L as → R (.ok (.ret res)) { s with heap := h', toks := tk }) :
    ∀ (l : List (List Nat)) (xs ys : List Nat) (r : Value) (h : Heap) (c : Nat) (acc : Array Value) (as : List Addr) (dn : List (List Nat)), Ch f n xs ys l → xs.length = n → dn ++ l = L → h.get? I = some (pmObj T 1 n r xs ys) → IsTup h T items →
      (∀ b o, b ≠ S → b ≠ I → h₁.get? b = some o → h.get? b = some o) → h.get? S = some { cls := .type "list", dict := none, data := .seq acc c, slots := #[] } → acc.toList = as.map Value.ref → Md items S I h dn as →
      codeAny (model prog w) A (.builtin "list.extend.loop" ⟨[.ref S, .ref I, res], []⟩) R { s with heap := h, toks := tk } := by
  intro l
  induction l with
  | nil =>
    intro xs ys r h c acc as dn ch hx hl hI hT hkeep hS hacc hG
    cases ch with
    | nil hf =>
      refine codeAny_builtin PySem.F.entry_extend_loop ?_
      rw [Around.under_plainId PySem.F.plain_extend_loop _]
      show wpAny _ A.in1 (pyNext (.ref I) >>= _) _ _ _
      refine wpAny_bind (sp prog w A.in1 _ { s with heap := h, toks := tk } I T n r xs ys items _ hh hI hT hn hx hn4 (fun xs' ys' e => by rw [hf] at e; cases e) fun _ h' he => ?_)
      rw [List.append_nil] at hl
      subst hl
      exact wpAny_pure (hR h' acc c as (fun b o h1 h2 e => he b o h2 (hkeep b o h1 h2 e)) (he S _ hSI hS) hacc (hG.keep fun b o h1 h2 e => he b o h2 e))
  | cons x l ih =>
    intro xs ys r h c acc as dn ch hx hl hI hT hkeep hS hacc hG
    cases ch with
    | cons hf hx' hy' ch' =>
      rename_i ys'
      have hle : dn.length ≤ 30 := by rw [← hl, List.length_append] at hL; omega
      refine step_pm res hSI hS hacc hG ⟨_, hI⟩ (by rw [hG.len]; exact hle) (T := T) (n := n) (xs' := x) (ys' := ys') (fun Q E hQ => ?_) fun h' c' q1 q2 q3 q4 => ?_
      · refine sp prog w A.in1 E { s with heap := h, toks := tk } I T n r xs ys items Q hh hI hT hn hx hn4 (fun xs2 ys2 e => ?_) fun e => by rw [hf] at e; cases e
        rw [hf] at e
        cases e
        exact ⟨hx', hy', hQ⟩
      · refine ih x ys' _ h' c' _ _ _ ch' hx' (by rw [List.append_assoc]; exact hl) q2 ?_ (fun b o h1 h2 e => q3 b o h1 h2 (hkeep b o h1 h2 e)) q1 (by rw [Array.toList_push, hacc, List.map_append]; rfl) q4
        obtain ⟨oT, e, z⟩ := hT
        exact ⟨oT, q3 T oT hTS hTI e, z⟩
end
end RPm

set_option Elab.async false
set_option linter.all false
set_option maxRecDepth 100000
set_option maxHeartbeats 4000000
namespace RPm
open PySem PySem.Spec PyProof.Rows L2
open Sem (wp)
def pmAll (n : Nat) : List (List Nat) := List.range n :: pmTail n
theorem pmAll_len {n : Nat} (h : n ≤ 4) : (pmAll n).length ≤ 30 := by
  have : n = 0 ∨ n = 1 ∨ n = 2 ∨ n = 3 ∨ n = 4 := by omega
  rcases this with rfl | rfl | rfl | rfl | rfl <;> decide
section
variable {prog : Program} {w : World} {A : Around} {s : Shared} {R : Result → Shared → Prop} {items : Array Value} {S I T : Addr} {n : Nat} {E : Value → Shared → Prop}
theorem start_pm (res : Value) (hh : A.handled = none) (hSI : S ≠ I) (hTS : T ≠ S) (hTI : T ≠ I) (hn : items.size = n) (hn4 : n ≤ 4) {h : Heap} {tk c : Nat}
    (hI : h.get? I = some (pmObj T 0 n .none (List.range n) (downFrom n))) (hT : IsTup h T items) (hS : h.get? S = some { cls := .type "list", dict := none, data := .seq #[] c, slots := #[] })
    (hR : ∀ h' acc c as, (∀ b o, b ≠ S → b ≠ I → h.get? b = some o → h'.get? b = some o) → h'.get? S = some { cls := .type "list", dict := none, data := .seq acc c, slots := #[] } → acc.toList = as.map Value.ref → Md items S I h' (pmAll n) as → R (.ok (.ret res)) { s with heap := h', toks := tk }) :
    codeAny (model prog w) A (.builtin "list.extend.loop" ⟨[.ref S, .ref I, res], []⟩) R { s with heap := h, toks := tk } := by
  obtain ⟨f, sp, ch⟩ := next_1
  refine step_pm (items := items) (n := n) (T := T) (xs' := List.range n) (ys' := downFrom n) (as := []) (dn := []) res hSI hS rfl ⟨rfl, .nil, (fun a ha => nomatch ha), fun j a ix h => by simp at h⟩ ⟨_, hI⟩ (Nat.zero_le _) (fun Q E hQ => ?_) fun h' c' q1 q2 q3 q4 => ?_
  · exact next_0 (s := { s with heap := h, toks := tk }) hI hT hn (List.length_range ..) hn4 hQ
  · refine loop_pm (h₁ := h) (L := pmAll n) sp res hh hSI hTS hTI hn hn4 (pmAll_len hn4) hR (pmTail n) (List.range n) (downFrom n) _ h' c' _ [h.objs.size] [List.range n] (ch n hn4) (List.length_range ..) rfl q2 ?_ q3 q1 rfl q4
    obtain ⟨oT, e, z⟩ := hT
    exact ⟨oT, q3 T oT hTS hTI e, z⟩
theorem extend_pm (res : Value) (hh : A.handled = none) (hSI : S ≠ I) (hTS : T ≠ S) (hTI : T ≠ I) (hn : items.size = n) (hn4 : n ≤ 4) {c : Nat}
    (hI : s.heap.get? I = some (pmObj T 0 n .none (List.range n) (downFrom n))) (hT : IsTup s.heap T items) (hS : s.heap.get? S = some { cls := .type "list", dict := none, data := .seq #[] c, slots := #[] })
    (hR : ∀ h' acc c as, (∀ b o, b ≠ S → b ≠ I → s.heap.get? b = some o → h'.get? b = some o) → h'.get? S = some { cls := .type "list", dict := none, data := .seq acc c, slots := #[] } → acc.toList = as.map Value.ref → Md items S I h' (pmAll n) as → R (.ok (.ret res)) { s with heap := h' }) :
    wpAny (model prog w) A.in1 (Builtin.List.listExtendWith (.ref S) (.ref I) res)
      (fun fin s' => match fin with | .done f => R (.ok f) s' | .again c' => c'.quiet = true ∧ codeAny (model prog w) A c' R s') (fun e s' => R (.error e) s') s := by
  have hTy : s.TypeIs (.ref I) "itertools.permutations" := ⟨_, hI, rfl⟩
  unfold Builtin.List.listExtendWith
  refine wpAny_bind (wpAny_typeOf hTy ?_)
  have h1 : Builtin.List.listSameRef (.ref S) (.ref I) = false := by simp [Builtin.List.listSameRef, hSI]
  have h2 : (Value.type "itertools.permutations" == Value.type "list") = false := by decide
  have h3 : (Value.type "itertools.permutations" == Value.type "tuple") = false := by decide
  simp only [h1, h2, h3, Bool.or_false, Bool.false_eq_true, if_false]
  refine wpAny_bind (iter_pm hI ?_)
  refine wpAny_bind (wpAny_holding ?_)
  unfold Builtin.List.listLengthHint
  refine wpAny_bind (wpAny_specialOf hTy no_len ?_)
  show wpAny _ A.in1 (specialOf (Value.ref I) (Str.ofString "__length_hint__") >>= _) _ _ _
  refine wpAny_bind (wpAny_specialOf hTy no_hint ?_)
  refine wpAny_pure ?_
  refine wpAny_ite_split (fun _ => ?_) (fun _ => wpAny_pure ⟨plainId_quiet PySem.F.plain_extend_loop _, start_pm (tk := s.toks) (h := s.heap) res hh hSI hTS hTI hn hn4 hI hT hS fun h' acc c as k1 k2 k3 k4 => hR h' acc c as k1 k2 k3 k4⟩)
  refine wpAny_bind (wpAny_rule ?_)
  refine wpAny_bind ?_
  show wpAny _ _ (updateSeq S (·.push .none) >>= fun _ => updateSeq S (·.pop)) _ _ _
  refine wpAny_bind (wpAny_updateSeq hS rfl ?_)
  have hS₂ := Heap.get?_update_self (Obj.mapSeq (·.push Value.none)) hS rfl
  refine wpAny_updateSeq (hz := by seq_fits) hS₂ rfl ?_
  have hS₃ := Heap.get?_update_self (Obj.mapSeq (·.pop)) hS₂ rfl
  have up : ∀ b o, b ≠ S → s.heap.get? b = some o → ((s.heap.update S (Obj.mapSeq (·.push Value.none))).update S (Obj.mapSeq (·.pop))).get? b = some o := fun b o hb e =>
    (Heap.get?_update_other _ _ (Ne.symm hb)).trans ((Heap.get?_update_other _ _ (Ne.symm hb)).trans e)
  refine wpAny_pure ⟨plainId_quiet PySem.F.plain_extend_loop _, start_pm (tk := s.toks) res hh hSI hTS hTI hn hn4 (up I _ (Ne.symm hSI) hI) ?_ hS₃ fun h' acc c as k1 k2 k3 k4 => hR h' acc c as (fun b o z1 z2 e => k1 b o z1 z2 (up b o z1 e)) k2 k3 k4⟩
  obtain ⟨oT, e, z⟩ := hT
  exact ⟨oT, up T oT hTS e, z⟩
/-- list(p), p a fresh permutations object -/
theorem call_list_pm {Q : Value → Shared → Prop} (hh : A.handled = none) (hTI : T ≠ I) (hn : items.size = n) (hn4 : n ≤ 4)
    (hI : s.heap.get? I = some (pmObj T 0 n .none (List.range n) (downFrom n))) (hT : IsTup s.heap T items)
    (hQ : ∀ h' acc c as, (∀ b o, b ≠ I → s.heap.get? b = some o → h'.get? b = some o) → h'.get? s.heap.objs.size = some { cls := .type "list", dict := none, data := .seq acc c, slots := #[] } → acc.toList = as.map Value.ref → Md items s.heap.objs.size I h' (pmAll n) as → Q (.ref s.heap.objs.size) { s with heap := h' }) :
    wpAny (model prog w) A (call (.type "list") [.ref I]) Q E s := by
  refine callType_codes (Q₁ := fun obj s₁ => obj = .ref s.heap.objs.size ∧ s₁ = { s with heap := s.heap.push { cls := .type "list", data := .seq #[] } }) PySem.F.called_list (PySem.F.typeCall_list_1 _) PySem.F.entry_list_init
    (code_list_new _ ⟨rfl, rfl⟩) fun obj s₁ h₁ => ?_
  obtain ⟨rfl, rfl⟩ := h₁
  have hS : (s.heap.push { cls := .type "list", data := .seq #[] }).get? s.heap.objs.size = some { cls := .type "list", data := .seq #[] } := Heap.get?_push_size _ rfl
  refine ⟨⟨_, hS, rfl⟩, PySem.F.args_list_init_2 _ _, ?_⟩
  have hIl := Heap.lt_size hI
  have hTl : T < s.heap.objs.size := let ⟨_, e, _⟩ := hT; Heap.lt_size e
  show wpAny _ _ (do let old ← Builtin.List.listItems (.ref s.heap.objs.size); Builtin.List.listUpdate (.ref s.heap.objs.size) (fun _ => #[]); letGo old.toList.reverse; Builtin.List.listExtendWith (.ref s.heap.objs.size) (.ref I) .none) _ _ _
  refine wpAny_bind ?_
  unfold Builtin.List.listItems
  refine wpAny_bind (wpAny_seqItems hS rfl (wpAny_pure ?_))
  show wpAny _ _ (updateSeq s.heap.objs.size (fun _ => #[]) >>= fun _ => letGo (#[] : Array Value).toList.reverse >>= fun _ => Builtin.List.listExtendWith (.ref s.heap.objs.size) (.ref I) .none) _ _ _
  refine wpAny_bind (wpAny_updateSeq hS rfl ?_)
  have hS₂ := Heap.get?_update_self (Obj.mapSeq (fun _ => (#[] : Array Value))) hS rfl
  have oth : ∀ b o, b ≠ s.heap.objs.size → (s.heap.push { cls := .type "list", data := .seq #[] }).get? b = some o → ((s.heap.push { cls := .type "list", data := .seq #[] }).update s.heap.objs.size (Obj.mapSeq (fun _ => (#[] : Array Value)))).get? b = some o :=
    fun b o hb e => (Heap.get?_update_other _ _ (Ne.symm hb)).trans e
  refine wpAny_bind (wpAny_letGo ?_)
  refine extend_pm (A := A.in1) (T := T) (n := n) (items := items) .none hh (Nat.ne_of_gt hIl) (Nat.ne_of_lt hTl) hTI hn hn4 (oth I _ (Nat.ne_of_lt hIl) (Heap.get?_push_of_some _ hI)) ?_ hS₂ fun h' acc c as k1 k2 k3 k4 => ⟨rfl, ?_⟩
  · obtain ⟨oT, e, z⟩ := hT
    exact ⟨oT, oth T oT (Nat.ne_of_lt hTl) (Heap.get?_push_of_some _ e), z⟩
  · exact hQ h' acc c as (fun b o hb e => k1 b o (Nat.ne_of_lt (Heap.lt_size e)) hb (oth b o (Nat.ne_of_lt (Heap.lt_size e)) (Heap.get?_push_of_some _ e))) k2 k3 k4
end
end RPm

set_option Elab.async false
set_option linter.all false
set_option maxRecDepth 100000
set_option maxHeartbeats 4000000
namespace RPm
open PySem PySem.Spec PyProof.Rows L2
open Sem (wp)
def updL (H : Hp) : List Addr → List (List V) → Hp
  | a :: as, t :: ts => updL (upd H a (.tup t)) as ts
  | _, _ => H
section
variable {X : Cx} {pins : List (Addr × Obj)} {σ : L2.St} {H : Hp} {s : Shared}
/-- many tuples are laid -/
theorem lay_tups {h' : Heap} {t' : Nat} : ∀ (as : List Addr) (ts : List (List V)) {H : Hp} {s : Shared}, L2.Inv X pins σ H s → as.length = ts.length → (∀ b o, s.heap.get? b = some o → h'.get? b = some o) → as.Pairwise (· < ·) → (∀ a ∈ as, s.heap.get? a = none) → (∀ a ∈ as, H a = none) →
    (∀ (j : Nat) a t, as[j]? = some a → ts[j]? = some t → ∃ us : List Value, Vals t us ∧ t.length ≤ 4 ∧ IsTup h' a us.toArray) → L2.Inv X pins σ (updL H as ts) { s with heap := h', toks := t' }
  | [], [], H, s, I, _, k, _, _, _, _ => I.kept k
  | [], _ :: _, _, _, _, h, _, _, _, _, _ => by cases h
  | _ :: _, [], _, _, _, h, _, _, _, _, _ => by cases h
  | a :: as, t :: ts, H, s, I, hl, k, hp, hn, hH, ht => by
    obtain ⟨G, g1, g2⟩ := restrict h' fun b => decide (b ∉ as)
    have han : a ∉ as := fun z => Nat.lt_irrefl _ ((List.pairwise_cons.mp hp).1 a z)
    have ga : G.get? a = h'.get? a := g1 a (decide_eq_true han)
    have gk : ∀ b o, s.heap.get? b = some o → G.get? b = some o := fun b o e => by
      have hb : b ∉ as := fun z => by rw [hn b (List.mem_cons_of_mem _ z)] at e; cases e
      rw [g1 b (decide_eq_true hb)]; exact k b o e
    have gs : ∀ b o, G.get? b = some o → h'.get? b = some o := fun b o e => by
      by_cases hb : b ∈ as
      · rw [g2 b (decide_eq_false fun z => z hb)] at e; cases e
      · rw [← g1 b (decide_eq_true hb)]; exact e
    obtain ⟨us, u1, u2, u3⟩ := ht 0 a t rfl rfl
    have I1 : L2.Inv X pins σ (upd H a (.tup t)) { s with heap := G, toks := t' } := I.laidN (t' := t') gk (hn a (List.mem_cons_self ..)) (hH a (List.mem_cons_self ..))
      (show ObjOk X.prog X.w _ _ _ (.tup t) from ⟨by rw [sizeLine_eq]; omega, us, u1, by obtain ⟨o, e, z⟩ := u3; exact ⟨o, ga.trans e, z⟩⟩)
    refine lay_tups (h' := h') (t' := t') as ts (s := { s with heap := G, toks := t' }) I1 (by simpa using hl) gs (List.pairwise_cons.mp hp).2 (fun b hb => g2 b (decide_eq_false fun z => z hb)) (fun b hb => ?_) fun j b u h1 h2 => ht (j + 1) b u (by simpa using h1) (by simpa using h2)
    rw [upd_ne (fun z : b = a => han (by rw [← z]; exact hb))]
    exact hH b (List.mem_cons_of_mem _ hb)
def pickV (ys : List V) (ix : List Nat) : List V := ix.map fun i => ys.getD i .non
def tPm (ta : TE) : TE := fun σ H Q => ta σ H fun x H1 => ∃ p ys, x = .ref p ∧ H1 p = some (.lst ys) ∧ ys.length ≤ 4 ∧ ∀ q as, H1 q = none → as.length = (pmAll ys.length).length → as.Pairwise (· < ·) → (∀ a ∈ as, a ≠ q ∧ H1 a = none) →
  Q (.ref q) (updL (upd H1 q (.lst (as.map V.ref))) as ((pmAll ys.length).map (pickV ys)))
theorem refs_vals : ∀ as : List Addr, Vals (as.map V.ref) (as.map Value.ref)
  | [] => .nil
  | a :: as => .cons rfl (refs_vals as)
theorem pick_vals {ys : List V} {its : List Value} (r : Vals ys its) : ∀ ix : List Nat, (∀ i ∈ ix, i < ys.length) → Vals (pickV ys ix) (ix.map fun i => its.toArray.getD i .none)
  | [], _ => .nil
  | i :: ix, h => by
    have hi := h i (List.mem_cons_self ..)
    obtain ⟨u, hu, ru⟩ := r.get (i := i) (x := ys[i]) (List.getElem?_eq_getElem hi)
    refine .cons ?_ (pick_vals r ix fun k hk => h k (List.mem_cons_of_mem _ hk))
    have e1 : ys.getD i .non = ys[i] := by rw [List.getD_eq_getElem?_getD, List.getElem?_eq_getElem hi]; rfl
    have e2 : its.toArray.getD i .none = u := by
      rw [Array.getD_eq_getD_getElem?, List.getElem?_toArray, hu]; rfl
    show L2.RelV (ys.getD i .non) (its.toArray.getD i .none)
    rw [e1, e2]; exact ru
theorem pm_in {n : Nat} (h : n ≤ 4) : ∀ ix ∈ pmAll n, ix.length ≤ 4 ∧ ∀ i ∈ ix, i < n := by
  have : n = 0 ∨ n = 1 ∨ n = 2 ∨ n = 3 ∨ n = 4 := by omega
  rcases this with rfl | rfl | rfl | rfl | rfl <;> decide
variable {a : Expr} {ta : TE}
theorem pe_listPm {p p2 pos q : Pos} (hc : X.calm = true) (hg : Gl X "list") (hm : X.mg "list" = none) (hg2 : Gl X "permutations") (hm2 : X.mg "permutations" = some (.type "itertools.permutations")) (ha : PE X a ta)
    (na : starEach [a] X.env = (false, eval a X.env) :: starEach [] X.env := by rfl)
    (nb : starEach [.Call (.Name "permutations" p2) [a] [] q] X.env = (false, eval (.Call (.Name "permutations" p2) [a] [] q) X.env) :: starEach [] X.env := by rfl) :
    PE X (.Call (.Name "list" p) [.Call (.Name "permutations" p2) [a] [] q] [] pos) (tPm ta) := by
  refine ⟨fun pins s σ H Q I h => ?_⟩
  refine Call_ (ld_blt I hg hm boot_list (PyProof.Rows.callWith_type1 (args_cons (Call_ (ld_glob I hg2 hm2 (PyProof.Rows.callWith_type1 (one_arg ha I h (fun v s2 x H2 I2 r qq => ?_) na) na) (by decide))) nb) nb))
  obtain ⟨pp, ys, rfl, hl, h4, qq⟩ := qq
  cases r
  obtain ⟨hz, its, k, rv, hget⟩ := (show ObjOk X.prog X.w H2 s2.heap pp (.lst ys) from I2.hok pp _ hl)
  have hn : its.toArray.size = ys.length := by rw [List.size_toArray]; exact rv.length.symm
  refine callType_new called_pm (by decide +kernel) (typeCall_1 _) (newCall_1 _) (fun obj => PySem.F.args_object_init_2 obj _) entry_new (meets_new pp its.toArray k (by rw [hn]; exact h4)) ?_
  refine ⟨hget, fun h' T J hk hTn hJn hTJ hT hJ => ⟨⟨_, hJ, rfl⟩, args_nil ?_⟩⟩
  rw [hn] at hJ
  refine call_list_pm (s := { s2 with heap := h' }) (n := ys.length) (items := its.toArray) (I2.ok.hd hc) (Nat.ne_of_lt hTJ) hn h4 hJ hT fun h'' acc c as k1 k2 k3 k4 => ?_
  have keep : ∀ b o, s2.heap.get? b = some o → h''.get? b = some o := fun b o e => k1 b o (fun z => by rw [z, hJn] at e; cases e) (hk b o e)
  have fr : ∀ b, h'.objs.size ≤ b → s2.heap.get? b = none := fun b hb => none_of hk hb
  have frH : ∀ b, h'.objs.size ≤ b → H2 b = none := fun b hb => I2.hok.gone (fr b hb)
  have up : ∀ b ∈ as, h'.objs.size < b := fun b hb => (k4.above b hb).2
  obtain ⟨G, g1, g2⟩ := restrict h'' fun b => decide (b ∉ as)
  have hSa : h'.objs.size ∉ as := fun z => Nat.lt_irrefl _ (up _ z)
  have gk : ∀ b o, s2.heap.get? b = some o → G.get? b = some o := fun b o e => by
    have hb : b ∉ as := fun z => by rw [fr b (Nat.le_of_lt (up b z))] at e; cases e
    rw [g1 b (decide_eq_true hb)]; exact keep b o e
  have gs : ∀ b o, G.get? b = some o → h''.get? b = some o := fun b o e => by
    by_cases hb : b ∈ as
    · rw [g2 b (decide_eq_false fun z => z hb)] at e; cases e
    · rw [← g1 b (decide_eq_true hb)]; exact e
  have hlen : as.length ≤ 30 := by rw [k4.len]; exact pmAll_len h4
  have I3 : L2.Inv X pins σ (upd H2 h'.objs.size (.lst (as.map V.ref))) { s2 with heap := G, toks := s2.toks } := I2.laidN (t' := s2.toks) gk (fr _ (Nat.le_refl _)) (frH _ (Nat.le_refl _))
    (show ObjOk X.prog X.w _ _ _ (.lst (as.map V.ref)) from ⟨by rw [List.length_map, sizeLine_eq]; omega, as.map Value.ref, c, refs_vals as, by rw [g1 _ (decide_eq_true hSa), k2, ← k3]⟩)
  have I4 := lay_tups (h' := h'') (t' := s2.toks) as ((pmAll ys.length).map (pickV ys)) I3 (by rw [List.length_map]; exact k4.len) gs k4.rise (fun b hb => g2 b (decide_eq_false fun z => z hb))
    (fun b hb => by rw [upd_ne (Nat.ne_of_gt (up b hb))]; exact frH b (Nat.le_of_lt (up b hb))) (fun j b t h1 h2 => by
      rw [List.getElem?_map] at h2
      cases e : (pmAll ys.length)[j]? with
      | none => rw [e] at h2; cases h2
      | some ix =>
        rw [e] at h2
        cases h2
        have hin := pm_in h4 ix (List.mem_of_getElem? e)
        exact ⟨_, pick_vals rv ix hin.2, by unfold pickV; rw [List.length_map]; exact hin.1, ⟨_, k4.at' j b ix h1 e, rfl, _, rfl⟩⟩)
  exact ⟨.ref h'.objs.size, _, I4, rfl, qq _ as (frH _ (Nat.le_refl _)) k4.len k4.rise fun b hb => ⟨Nat.ne_of_gt (up b hb), frH b (Nat.le_of_lt (up b hb))⟩⟩
end
end RPm

set_option Elab.async false
set_option linter.all false
set_option maxRecDepth 100000
set_option maxHeartbeats 4000000
namespace RB
open PySem PySem.Spec PyProof.Rows L2
def pickW (ws : List W) (ix : List Nat) : W := .tup (ix.map fun i => ws.getD i .non)
def fPerms (w : W) (st : Sto) : Res W := match w with
  | .ref n => (match st.c[n]? with
    | some (.lst ws) => if ws.length ≤ 4 then .ok (.ref st.c.length) (st.push (.lst ((RPm.pmAll ws.length).map (pickW ws)))) else .err
    | _ => .err)
  | _ => .err
section
variable {X : Cx} {Γ : Gm} {Wx : WX} {a : Expr} {ea : Ev}
theorem updL_sim {K : PySem.W.Frag} {μ : List Addr} {st : Sto} : ∀ (as : List Addr) (ts : List (List V)) {H : Hp}, as.length = ts.length → as.Pairwise (· < ·) → (∀ a ∈ as, H a = none) → Sim Γ μ st H → 
    Ext Γ.K μ μ H (RPm.updL H as ts) ∧ Sim Γ μ st (RPm.updL H as ts) ∧ ∀ (j : Nat) a t, as[j]? = some a → ts[j]? = some t → SqT Γ.K (RPm.updL H as ts) a t
  | [], [], H, _, _, _, s => ⟨Ext.refl, s, fun j a t h => by simp at h⟩
  | [], _ :: _, _, h, _, _, _ => by cases h
  | _ :: _, [], _, h, _, _, _ => by cases h
  | a :: as, t :: ts, H, hl, hp, hn, s => by
    have ha := hn a (List.mem_cons_self ..)
    have s1 : Sim Γ μ st (upd H a (.tup t)) := s.other ha
    have e1 : Ext Γ.K μ μ H (upd H a (.tup t)) := ext_upd (.inl ha)
    have han : a ∉ as := fun z => Nat.lt_irrefl _ ((List.pairwise_cons.mp hp).1 a z)
    obtain ⟨e2, s2, h2⟩ := updL_sim (K := K) as ts (by simpa using hl) (List.pairwise_cons.mp hp).2 (fun b hb => by
      rw [upd_ne (fun z : b = a => han (by rw [← z]; exact hb))]
      exact hn b (List.mem_cons_of_mem _ hb)) s1
    refine ⟨e1.trans e2, s2, fun j b u h1 h3 => ?_⟩
    cases j with
    | zero =>
      simp at h1 h3
      subst h1 h3
      exact e2.tup _ _ (.inl (.inl upd_same))
    | succ j => exact h2 j b u (by simpa using h1) (by simpa using h3)
theorem reps_pick {K : PySem.W.Frag} {μ : List Addr} {H : Hp} {ws : List W} {xs : List V} (r : Reps K μ H ws xs) : ∀ ix : List Nat, Reps K μ H (ix.map fun i => ws.getD i .non) (RPm.pickV xs ix)
  | [] => .nil
  | i :: ix => by
    refine .cons ?_ (reps_pick r ix)
    show Rep K μ H (ws.getD i .non) (xs.getD i .non)
    rw [List.getD_eq_getElem?_getD, List.getD_eq_getElem?_getD]
    cases e : ws[i]? with
    | none =>
      have : xs[i]? = none := by
        rw [List.getElem?_eq_none_iff] at e ⊢
        rw [← r.length]; exact e
      rw [this]; exact .non
    | some w =>
      obtain ⟨v, h1, h2⟩ := r.get e
      rw [h1]; exact h2
theorem reps_tups {K : PySem.W.Frag} {μ : List Addr} {H : Hp} {ws : List W} {xs : List V} (r : Reps K μ H ws xs) : ∀ (as : List Addr) (ixs : List (List Nat)), as.length = ixs.length → (∀ (j : Nat) a t, as[j]? = some a → (ixs.map (RPm.pickV xs))[j]? = some t → SqT K H a t) → Reps K μ H (ixs.map (pickW ws)) (as.map V.ref)
  | [], [], _, _ => .nil
  | [], _ :: _, h, _ => by cases h
  | _ :: _, [], h, _ => by cases h
  | a :: as, ix :: ixs, hl, h => .cons (.tup (h 0 a _ rfl rfl) (reps_pick r ix)) (reps_tups r as ixs (by simpa using hl) fun j b t h1 h2 => h (j + 1) b t (by simpa using h1) (by simpa using h2))
theorem updL_ne {r : Addr} : ∀ (as : List Addr) (ts : List (List V)) {H : Hp}, (∀ a ∈ as, a ≠ r) → RPm.updL H as ts r = H r
  | [], _, _, _ => by unfold RPm.updL; rfl
  | a :: as, [], _, _ => by unfold RPm.updL; rfl
  | a :: as, t :: ts, H, h => by
    show RPm.updL (upd H a (.tup t)) as ts r = H r
    rw [updL_ne as ts fun b hb => h b (List.mem_cons_of_mem _ hb), upd_ne (Ne.symm (h a (List.mem_cons_self ..)))]
theorem updL_comm {r : Addr} {o : HO} : ∀ (as : List Addr) (ts : List (List V)) {H : Hp}, (∀ a ∈ as, a ≠ r) → RPm.updL (upd H r o) as ts = upd (RPm.updL H as ts) r o
  | [], _, _, _ => by unfold RPm.updL; rfl
  | a :: as, [], _, _ => by unfold RPm.updL; rfl
  | a :: as, t :: ts, H, h => by
    show RPm.updL (upd (upd H r o) a (.tup t)) as ts = upd (RPm.updL (upd H a (.tup t)) as ts) r o
    rw [← updL_comm as ts fun b hb => h b (List.mem_cons_of_mem _ hb)]
    congr 1
    have ne := h a (List.mem_cons_self ..)
    funext b
    by_cases hb : b = a
    · subst hb; rw [upd_same, upd_ne ne, upd_same]
    · rw [upd_ne hb]
      by_cases hr : b = r
      · subst hr; rw [upd_same, upd_same]
      · rw [upd_ne hr, upd_ne hr, upd_ne hb]
theorem qe_listPm {p p2 pos q : Pos} (hK : X.K = Γ.K) (hc : X.calm = true) (hg : Gl X "list") (hm : X.mg "list" = none) (hg2 : Gl X "permutations") (hm2 : X.mg "permutations" = some (.type "itertools.permutations")) (ha : PE X a (tE Γ Wx ea))
    (na : starEach [a] X.env = (false, eval a X.env) :: starEach [] X.env := by rfl)
    (nb : starEach [.Call (.Name "permutations" p2) [a] [] q] X.env = (false, eval (.Call (.Name "permutations" p2) [a] [] q) X.env) :: starEach [] X.env := by rfl) :
    PE X (.Call (.Name "list" p) [.Call (.Name "permutations" p2) [a] [] q] [] pos) (tE Γ Wx (eU fPerms ea)) :=
  PE_imp (RPm.pe_listPm hc hg hm hg2 hm2 ha na nb) fun σ H Q ⟨μ, l, st, hs, hl, h⟩ => tG_bind hs hl h _ fun w st1 μ1 H1 v e1 s1 r1 h1 => by
    unfold fPerms at h1
    split at h1
    · rename_i n
      split at h1
      · rename_i ws ec
        split at h1
        · rename_i h4
          cases r1 with
          | ref hm =>
            rename_i pp
            obtain ⟨ys, q1, q2⟩ := s1.cell n _ _ ec hm
            have hle := q2.length
            refine ⟨pp, ys, rfl, q1, by omega, fun r as hr hal hp hn => ?_⟩
            have hl2 : as.length = ((RPm.pmAll ys.length).map (RPm.pickV ys)).length := by rw [List.length_map]; exact hal
            have hr2 : ∀ a ∈ as, upd H1 r (.lst (as.map V.ref)) a = none := fun a h => by rw [upd_ne (hn a h).1]; exact (hn a h).2
            rw [updL_comm as _ fun a h => (hn a h).1]
            obtain ⟨e2, s2, h2⟩ := updL_sim (K := Γ.K) as _ hl2 hp (fun a h => (hn a h).2) s1
            have hr3 : RPm.updL H1 as ((RPm.pmAll ys.length).map (RPm.pickV ys)) r = none := by
              rw [updL_ne as _ fun a h => (hn a h).1]; exact hr
            have E3 : Ext Γ.K μ1 (μ1 ++ [r]) (RPm.updL H1 as ((RPm.pmAll ys.length).map (RPm.pickV ys))) (upd (RPm.updL H1 as ((RPm.pmAll ys.length).map (RPm.pickV ys))) r (.lst (as.map V.ref))) := ext_new hr3
            have rr : Reps Γ.K μ1 (RPm.updL H1 as ((RPm.pmAll ys.length).map (RPm.pickV ys))) ((RPm.pmAll ws.length).map (pickW ws)) (as.map V.ref) := by
              rw [hle]
              exact reps_tups (q2.mono e2) as _ hal h2
            exact h1 _ _ _ (e2.trans E3) (s2.new hr3 ⟨_, upd_same, rr.mono E3⟩ (rr.low (Nat.le_of_eq s1.len))) (.ref (by rw [← s1.len]; simp))
        · exact h1.elim
      · exact h1.elim
    · exact h1.elim
end
end RB

set_option Elab.async false
set_option linter.all false
set_option maxRecDepth 100000
set_option maxHeartbeats 4000000
namespace L2
open PySem PySem.Spec PyProof.Rows HT
section
variable {prog : Program} {w : World} {A : Around} {E : Value → Shared → Prop} {s : Shared}
theorem adjust_rev (n : Nat) : Builtin.Slice.sliceAdjust none none (-1) (n : Int) = ((n : Int) - 1, -1) := by
  unfold Builtin.Slice.sliceAdjust
  simp
theorem places_rev (n : Nat) : Builtin.Slice.slicePlaces ((n : Int) - 1) (-1) (-1) = n := by
  unfold Builtin.Slice.slicePlaces
  simp
  try omega
theorem sliceApplied_rev {sl : Addr} {vl vu vs : Value} {n : Nat} {Q : Int × Int × Nat → Shared → Prop} (hs : s.heap.IsSliceOf sl vl vu vs) (pl : IsPart vl none) (pu : IsPart vu none) (ps : IsPart vs (some (-1)))
    (h : Q ((n : Int) - 1, -1, n) s) : wpAny (model prog w) A (Builtin.Slice.sliceApplied (.ref sl) (pure (n : Int))) Q E s := by
  obtain ⟨os, hos, hcs, hds⟩ := id hs
  unfold Builtin.Slice.sliceApplied Builtin.Slice.sliceFields
  refine wpAny_bind (wpAny_bind (wpAny_field hos hds (x := vl) rfl (wpAny_bind (wpAny_field hos hds (x := vu) rfl (wpAny_bind (wpAny_field hos hds (x := vs) rfl (wpAny_pure ?_)))))))
  refine wpAny_bind (slicePart_ ps ?_)
  show wpAny _ _ (if ((-1 : Int) == 0) = true then _ else _) _ _ s
  rw [if_neg (by decide)]
  refine wpAny_bind (slicePart_ pl (wpAny_bind (slicePart_ pu (wpAny_bind (wpAny_pure ?_)))))
  show wpAny _ _ (match Builtin.Slice.sliceAdjust none none (-1) (n : Int) with | (lo, hi) => pure (lo, (-1 : Int), Builtin.Slice.slicePlaces lo hi (-1))) _ _ s
  rw [adjust_rev n]
  show wpAny _ _ (pure ((n : Int) - 1, (-1 : Int), Builtin.Slice.slicePlaces ((n : Int) - 1) (-1) (-1))) _ _ s
  rw [places_rev]
  exact wpAny_pure h
theorem fm_congr {α β : Type} {f g : α → Option β} : ∀ {l : List α}, (∀ x ∈ l, f x = g x) → l.filterMap f = l.filterMap g
  | [], _ => rfl
  | a :: r, h => by rw [List.filterMap_cons, List.filterMap_cons, h a (List.mem_cons_self ..), fm_congr fun x hx => h x (List.mem_cons_of_mem _ hx)]
theorem pick_rev (xs : Array Value) : ((List.range xs.size).filterMap fun (k : Nat) => xs[(((xs.size : Int) - 1) + (k : Int) * (-1)).toNat]?).toArray = xs.toList.reverse.toArray := by
  congr 1
  have key : ∀ l : List Value, (List.range l.length).filterMap (fun k => l[k]?) = l := by
    intro l
    have : ∀ k ∈ List.range l.length, (fun k : Nat => l[k]?) k = some (l.getD k .none) := fun k hk => by
      have hk := List.mem_range.mp hk
      show l[k]? = _
      rw [List.getD_eq_getElem?_getD, List.getElem?_eq_getElem hk]; rfl
    rw [fm_congr this, List.filterMap_eq_map']
    refine List.ext_getElem? fun i => ?_
    rw [List.getElem?_map]
    by_cases hi : i < l.length
    · rw [List.getElem?_range hi, List.getElem?_eq_getElem hi]
      show some (l.getD i .none) = _
      rw [List.getD_eq_getElem?_getD, List.getElem?_eq_getElem hi]; rfl
    · rw [List.getElem?_eq_none (by rw [List.length_range]; omega), List.getElem?_eq_none (by omega)]; rfl
  have h2 := key xs.toList.reverse
  rw [List.length_reverse, Array.length_toList] at h2
  rw [← h2]
  refine fm_congr fun k hk => ?_
  have hk := List.mem_range.mp hk
  rw [List.getElem?_reverse (by rw [Array.length_toList]; exact hk), Array.length_toList]
  have : (((xs.size : Int) - 1) + (k : Int) * (-1)).toNat = xs.size - 1 - k := by omega
  rw [this, Array.getElem?_toList]
theorem getItem_tuple_rev {t sl : Addr} {items : Array Value} {vl vu vs : Value} {Q : Value → Shared → Prop} (ht : IsTup s.heap t items) (hs : s.heap.IsSliceOf sl vl vu vs) (pl : IsPart vl none) (pu : IsPart vu none) (ps : IsPart vs (some (-1)))
    (h : Q (.ref s.heap.objs.size) { s with heap := s.heap.push { cls := .type "tuple", data := .seq items.toList.reverse.toArray } })
    (hsz : items.size ≤ sizeLine) : wpAny (model prog w) A (getItem (.ref t) (.ref sl)) Q E s := by
  have htake : sizeOk (.seq items.toList.reverse.toArray) := by
    show items.toList.reverse.toArray.size ≤ sizeLine
    rw [List.size_toArray, List.length_reverse, Array.length_toList]
    exact hsz
  obtain ⟨os, hos, hcs, hds⟩ := id hs
  have hTs : s.TypeIs (.ref sl) "slice" := ⟨os, hos, hcs⟩
  unfold getItem
  try with_reducible refine wpAny_holding ?_
  first | refine wpAny_bind (wpAny_pure ?_) | skip
  refine wpAny_bind (wpAny_sequenceKey ht.typeIs (by decide) ?_)
  refine wpAny_bind (wpAny_callSpecial?_slot (name := Str.ofString "__getitem__") ht.typeIs PyProof.Rows.slot_tuple_getitem
    (wpAny_call_entry PyProof.Rows.slot_tuple_getitem ht.typeIs entry_tuple_getitem ?_ (args_tuple_getitem _ _)))
  show wpAny _ _ (Builtin.Tuple.tupleItemsOf (.ref t) >>= _) _ _ s
  refine wpAny_bind (tupleItemsOf_ ht ?_)
  refine wpAny_bind (wpAny_typeOf hTs ?_)
  rw [if_pos (by decide)]
  refine wpAny_bind (sliceApplied_rev hs pl pu ps ?_)
  have hno : ¬ ((((items.size : Int) - 1) == 0 && (-1 : Int) == 1 && items.size == items.size) = true) := by
    intro q
    rw [Bool.and_eq_true, Bool.and_eq_true] at q
    exact absurd q.1.2 (by decide)
  show wpAny _ _ (if (((items.size : Int) - 1) == 0 && (-1 : Int) == 1 && items.size == items.size) = true then _ else _) _ _ s
  rw [if_neg hno, pick_rev]
  first
    | exact wpAny_bind (m := Builtin.Tuple.tupleExact _) (wpAny_newObj_type (wpAny_pure ⟨_, rfl, wpAny_pure h⟩) htake)
    | exact wpAny_bind (m := Builtin.Tuple.tupleExact _) (wpAny_newObj_type (wpAny_bind (wpAny_pure (wpAny_pure ⟨_, rfl, wpAny_pure h⟩))) htake)
    | exact wpAny_bind (wpAny_bind (m := Builtin.Tuple.tupleExact _) (wpAny_newObj_type (wpAny_pure (wpAny_pure ⟨_, rfl, wpAny_pure h⟩)) htake))
    | exact wpAny_bind (wpAny_bind (m := Builtin.Tuple.tupleExact _) (wpAny_newObj_type (wpAny_pure ⟨_, rfl, wpAny_pure h⟩) htake))
end
section
variable {X : Cx}
def tRevT (K : PySem.W.Frag) (te : TE) : TE := fun σ H Q => te σ H fun x H1 => ∃ a xs, x = .ref a ∧ SqT K H1 a xs ∧ ∀ p, H1 p = none → Q (.ref p) (upd H1 p (.tup xs.reverse))
theorem pe_revT {e : Expr} {te : TE} {k : Nat} {p1 p2 p3 pos : Pos} (he : PE X e te) : PE X (.Subscript e (.Slice none none (some (.UnaryOp .USub (.Constant (.int 1) k p1) p2)) p3) pos) (tRevT X.K te) := by
  refine ⟨fun pins s σ H Q I h => ?_⟩
  refine Subscript_ (thn (he.run pins s σ H _ I h) fun v s1 ⟨x, H1, I1, r1, q1⟩ => ?_)
  obtain ⟨a, xs, ex, hx, q⟩ := q1
  subst ex
  cases r1
  have hst : PO X (some (.UnaryOp .USub (.Constant (.int 1) k p1) p2)) (tPart (tUn (rU fun i => .int (-i)) (tC (.int 1)))) := po_some (pe_un un_neg pe_int)
  refine wpAny_Slice (thn (po_none.run pins s1 σ H1 (fun o H2 => o = none ∧ H2 = H1) I1 ⟨rfl, rfl⟩) fun vl s2 ⟨l, H2, I2, pl, el, e2⟩ => ?_)
  subst el e2
  refine thn (po_none.run pins s2 σ H2 (fun o H3 => o = none ∧ H3 = H2) I2 ⟨rfl, rfl⟩) fun vu s3 ⟨u, H3, I3, pu, eu, e3⟩ => ?_
  subst eu e3
  refine thn (hst.run pins s3 σ H3 (fun o H4 => o = some (-1) ∧ H4 = H3) I3 ⟨1, rfl, -1, rfl, rfl, rfl⟩) fun vs s4 ⟨o, H4, I4, ps, eo, e4⟩ => ?_
  subst eo e4
  have I5 : L2.Inv X pins σ H4 { s4 with heap := s4.heap.push { cls := .type "slice", data := .fields #[vl, vu, vs] } } := I4.kept (t' := s4.toks) fun b ob q => Heap.get?_push_of_some _ q
  obtain ⟨its, r, ht, hz⟩ := I5.tuple hx
  have hlen := r.length
  show wpAny (model X.prog X.w) X.A (subscriptTail e (.Slice none none (some (.UnaryOp .USub (.Constant (.int 1) k p1) p2)) p3) (.ref a) (.ref s4.heap.objs.size)) (EP X pins σ Q) X.xe { s4 with heap := s4.heap.push { cls := .type "slice", data := .fields #[vl, vu, vs] } }
  refine tail_any (ops := [.ref a, .ref s4.heap.objs.size]) ht.typeIs PyProof.Rows.slot_tuple_getitem.lookup ?_ (by with_unfolding_all rfl)
  refine getItem_tuple_rev ht (Heap.IsSliceOf.new _ vl vu vs) pl pu ps ?_ (by rw [List.size_toArray]; omega)
  refine ⟨.ref _, _, I5.laid (t' := s4.toks) (o := .tup xs.reverse) (fun b ob q => Heap.get?_push_of_some _ q) (Nat.le_refl _) ?_, rfl, q _ (I5.hok.fresh (Nat.le_refl _))⟩
  exact ⟨by rw [List.length_reverse]; exact hz, _, r.reverse, IsTup.new _ _⟩
end
end L2
namespace RB
open PySem PySem.Spec PyProof.Rows L2
def fRev (w : W) (st : Sto) : Res W := match w with | .tup ws => .ok (.tup ws.reverse) st | _ => .err
section
variable {X : Cx} {Γ : Gm} {Wx : WX} {a : Expr} {ea : Ev}
theorem q_rev {k : Nat} {p1 p2 p3 pos : Pos} (hK : X.K = Γ.K) (ha : PE X a (tE Γ Wx ea)) : PE X (.Subscript a (.Slice none none (some (.UnaryOp .USub (.Constant (.int 1) k p1) p2)) p3) pos) (tE Γ Wx (eU fRev ea)) :=
  PE_imp (pe_revT ha) fun σ H Q ⟨μ, l, st, hs, hl, h⟩ => tG_bind hs hl h _ fun w st1 μ1 H1 v e1 s1 r1 h1 => by
    unfold fRev at h1
    split at h1
    · rename_i ws
      cases r1 with
      | tup q1 q2 =>
        rename_i aa xs
        rw [hK]
        refine ⟨aa, xs, rfl, q1, fun p hp => ?_⟩
        have E : Ext Γ.K μ1 μ1 H1 (upd H1 p (.tup xs.reverse)) := ext_upd (.inl hp)
        exact h1 _ _ _ E (s1.other hp) (.tup (.inl (.inl upd_same)) ((q2.reverse).mono E))
    · exact h1.elim
end
end RB

set_option Elab.async false
set_option linter.all false
set_option maxRecDepth 100000
set_option maxHeartbeats 4000000
namespace RB
open PySem PySem.Spec PyProof.Rows L2
section
variable {α β : Type}
abbrev XP := Nat → W → Sto → Prop
def Ok (r : Res α) (X : XP) (P : α → Sto → Prop) : Prop := match r with | .ok a st => P a st | .exc c p st => X c p st | .err => False
structure Po4 where
  nx : Lo → Sto → Prop
  rt : W → Sto → Prop
  bk : Lo → Sto → Prop
  ct : Lo → Sto → Prop
  ex : Nat → W → Lo → Sto → Prop
def OkS (r : RS) (D : Po4) : Prop := match r with | .nx l st => D.nx l st | .rt w st => D.rt w st | .bk l st => D.bk l st | .ct l st => D.ct l st | .exc c p l st => D.ex c p l st | .err => False
variable {X : XP} {P : W → Sto → Prop} {PB : Bool → Sto → Prop} {PL : List W → Sto → Prop} {D : Po4} {l : Lo} {st : Sto} {a b c : Ev} {ba bb : Bv} {as : Evs} {sa sb : Sx}
theorem k_ok {a : α} {P : α → Sto → Prop} : Ok (.ok a st) X P = P a st := rfl
theorem k_exc {n : Nat} {p : W} {P : α → Sto → Prop} : Ok (.exc n p st) X P = X n p st := rfl
theorem k_err {P : α → Sto → Prop} : Ok .err X P = False := rfl
theorem k_bind {r : Res α} {k : α → Sto → Res β} {P : β → Sto → Prop} : Ok (r.bind k) X P = Ok r X fun a st => Ok (k a st) X P := by cases r <;> rfl
theorem k_ite {q : Prop} [Decidable q] {r s : Res α} {P : α → Sto → Prop} : Ok (if q then r else s) X P = if q then Ok r X P else Ok s X P := by split <;> rfl
theorem k_iteS {q : Prop} [Decidable q] {r s : RS} : OkS (if q then r else s) D = if q then OkS r D else OkS s D := by split <;> rfl
theorem k_nx : OkS (.nx l st) D = D.nx l st := rfl
theorem k_rt {w : W} : OkS (.rt w st) D = D.rt w st := rfl
theorem k_xs {r : Res α} {k : α → Sto → RS} : OkS (xs r l k) D = Ok r (fun c p st => D.ex c p l st) fun a st => OkS (k a st) D := by cases r <;> rfl
theorem k_loc {i : Nat} : Ok (eLoc i l st) X P = match l[i]? with | some (some w) => P w st | _ => False := by unfold eLoc; rcases l[i]? with _ | (_ | _) <;> rfl
theorem k_lit {w : W} : Ok (eLit w l st) X P = P w st := rfl
theorem k_nil : Ok (evNil l st) X PL = PL [] st := rfl
theorem k_cons : Ok (evCons a as l st) X PL = Ok (a l st) X fun x st1 => Ok (as l st1) X fun xs st2 => PL (x :: xs) st2 := by unfold evCons; simp only [k_bind, k_ok]
theorem k_tup : Ok (eTup as l st) X P = Ok (as l st) X fun ws st1 => if ws.length ≤ 1000 then P (.tup ws) st1 else False := by unfold eTup; simp only [k_bind, k_ite, k_ok, k_err]
theorem k_lst : Ok (eLst as l st) X P = Ok (as l st) X fun ws st1 => if ws.length ≤ 1000 then P (.ref st1.c.length) (st1.push (.lst ws)) else False := by unfold eLst; simp only [k_bind, k_ite, k_ok, k_err]
theorem k_bin {op : W → W → Sto → Res W} : Ok (eBin op a b l st) X P = Ok (a l st) X fun x st1 => Ok (b l st1) X fun y st2 => Ok (op x y st2) X P := by unfold eBin; simp only [k_bind]
theorem k_eB {F : List W → Sto → Res W} : Ok (eB F as l st) X P = Ok (as l st) X fun ws st1 => Ok (F ws st1) X P := by unfold eB; simp only [k_bind]
theorem k_eU {F : W → Sto → Res W} : Ok (eU F a l st) X P = Ok (a l st) X fun ws st1 => Ok (F ws st1) X P := by unfold eU; simp only [k_bind]
theorem k_call {F : List W → Sto → Res W} {dws : List W} : Ok (eCall F dws as l st) X P = Ok (as l st) X fun ws st1 => Ok (F (ws ++ dws) st1) X P := by unfold eCall; simp only [k_bind]
theorem k_tru : Ok (bTru a l st) X PB = Ok (a l st) X fun w st1 => match truth st1 w with | some b => PB b st1 | none => False := by
  unfold bTru; simp only [k_bind]; congr 1; funext w st1; cases truth st1 w <;> rfl
theorem k_not : Ok (bNot ba l st) X PB = Ok (ba l st) X fun b st1 => PB (!b) st1 := by unfold bNot; simp only [k_bind, k_ok]
theorem k_and : Ok (bAnd ba bb l st) X PB = Ok (ba l st) X fun c st1 => if c = true then Ok (bb l st1) X PB else PB false st1 := by unfold bAnd; simp only [k_bind, k_ite, k_ok]
theorem k_or : Ok (bOr ba bb l st) X PB = Ok (ba l st) X fun c st1 => if c = true then PB true st1 else Ok (bb l st1) X PB := by unfold bOr; simp only [k_bind, k_ite, k_ok]
theorem k_if : Ok (eIf ba a b l st) X P = Ok (ba l st) X fun k st1 => if k = true then Ok (a l st1) X P else Ok (b l st1) X P := by unfold eIf; simp only [k_bind, k_ite]
theorem k_eAnd : Ok (eAnd a b l st) X P = Ok (a l st) X fun x st1 => match x with | .bl c => if c = true then Ok (b l st1) X P else P (.bl false) st1 | _ => False := by
  unfold eAnd; simp only [k_bind]; congr 1; funext w st1; cases w <;> simp only [k_ite, k_ok, k_err]
theorem k_eOr : Ok (eOr a b l st) X P = Ok (a l st) X fun x st1 => match x with | .bl c => if c = true then P (.bl true) st1 else Ok (b l st1) X P | _ => False := by
  unfold eOr; simp only [k_bind]; congr 1; funext w st1; cases w <;> simp only [k_ite, k_ok, k_err]
theorem k_eNot : Ok (eNot a l st) X P = Ok (a l st) X fun x st1 => match x with | .bl c => P (.bl (!c)) st1 | _ => False := by
  unfold eNot; simp only [k_bind]; congr 1; funext w st1; cases w <;> simp only [k_ok, k_err]
theorem k_val : Ok (bVal a l st) X PB = Ok (a l st) X fun x st1 => match x with | .bl c => PB c st1 | _ => False := by
  unfold bVal; simp only [k_bind]; congr 1; funext w st1; cases w <;> simp only [k_ok, k_err]
theorem k_chain {op op' : W → W → Sto → Res W} : Ok (eChain op op' a b c l st) X P = Ok (a l st) X fun x st1 => Ok (b l st1) X fun y st2 => Ok (op x y st2) X fun z st3 => match z with | .bl k => if k = true then Ok (c l st3) X fun w st4 => Ok (op' y w st4) X P else P (.bl false) st3 | _ => False := by
  unfold eChain; simp only [k_bind]; congr 1; funext w st1; congr 1; funext y st2; congr 1; funext z st3; cases z <;> simp only [k_ite, k_bind, k_ok, k_err]
theorem k_sNil : OkS (sNil l st) D = D.nx l st := rfl
theorem k_sSeq : OkS (sSeq sa sb l st) D = OkS (sa l st) { D with nx := fun l1 st1 => OkS (sb l1 st1) D } := by unfold sSeq; cases sa l st <;> rfl
theorem k_sSet {tg : Tg} : OkS (sSet tg a l st) D = Ok (a l st) (fun c p st => D.ex c p l st) fun w st1 => match tg w l st1 with | some l1 => D.nx l1 st1 | none => False := by
  unfold sSet; rw [k_xs]; congr 1; funext w st1; cases tg w l st1 <;> rfl
theorem k_sSetN {i : Nat} : OkS (sSet (tgName i) a l st) D = Ok (a l st) (fun c p st => D.ex c p l st) fun w st1 => D.nx (l.set i (some w)) st1 := by rw [k_sSet]; rfl
theorem k_sDrop : OkS (sDrop a l st) D = Ok (a l st) (fun c p st => D.ex c p l st) fun w st1 => D.nx l st1 := by unfold sDrop; rw [k_xs]; rfl
theorem k_sRet : OkS (sRet a l st) D = Ok (a l st) (fun c p st => D.ex c p l st) fun w st1 => D.rt w st1 := by unfold sRet; rw [k_xs]; rfl
theorem k_sRetN : OkS (sRetN l st) D = D.rt .non st := rfl
theorem k_sIf : OkS (sIf ba sa sb l st) D = Ok (ba l st) (fun c p st => D.ex c p l st) fun k st1 => if k = true then OkS (sa l st1) D else OkS (sb l st1) D := by unfold sIf; rw [k_xs]; congr 1; funext k st1; rw [k_iteS]
theorem k_sBreak : OkS (sBreak l st) D = D.bk l st := rfl
theorem k_sCont : OkS (sCont l st) D = D.ct l st := rfl
theorem k_sFor {n : Nat} {src : Lo → Sto → Res Src} {tg : Tg} : OkS (sFor n src tg sa l st) D = Ok (src l st) (fun c p st => D.ex c p l st) fun s st1 => OkS (loopF s tg sa n 0 l st1) D := by unfold sFor; rw [k_xs]
theorem k_sRaise {n : Nat} : OkS (sRaise n as l st) D = Ok (as l st) (fun c p st => D.ex c p l st) fun ws st1 => match ws with | [w] => D.ex n w l st1 | _ => False := by
  unfold sRaise; rw [k_xs]; congr 1; funext ws st1; rcases ws with _ | ⟨w, _ | ⟨_, _⟩⟩ <;> rfl
theorem k_sTry {is : Nat → Option Bool} {g : W → W} : OkS (sTry is g sa l st) D = OkS (sa l st) { D with ex := fun c p l1 st1 => match is c with | some true => D.rt (g p) st1 | some false => D.ex c p l1 st1 | none => False } := by
  unfold sTry; cases sa l st <;> try rfl
  rename_i c p l1 st1
  show OkS (match is c with | some true => .rt (g p) st1 | some false => .exc c p l1 st1 | none => .err) D = (match is c with | some true => D.rt (g p) st1 | some false => D.ex c p l1 st1 | none => False)
  rcases is c with _ | (_ | _) <;> rfl
theorem k_defn {n : Nat} {body : Sx} {ws : List W} {st : Sto} : Ok (defn n body ws st) X P = OkS (body (ws.map some ++ List.replicate (n - ws.length) none) st)
    { nx := fun _ st' => Ok (trim st.c.length .non st') X P, rt := fun w st' => Ok (trim st.c.length w st') X P, bk := fun _ _ => False, ct := fun _ _ => False, ex := fun c p _ st' => if (st'.may st.c.length && W.pure p) = true then X c p (st'.cut st.c.length) else X c p st' } := by
  unfold defn
  cases body (ws.map some ++ List.replicate (n - ws.length) none) st <;> try rfl
  simp only [OkS]
  split <;> rfl
theorem k_trim {n : Nat} {w : W} {c : List Cell} (h : W.pure w = true) : Ok (trim n w ⟨c, none⟩) X P = P w ⟨c.take n, none⟩ := by
  unfold trim Sto.may Sto.cut
  simp [h, k_ok]
theorem k_vSeqL {n : Nat} {ws : List W} {P : Src → Sto → Prop} : True := trivial
theorem k_vSeq {P : Src → Sto → Prop} : Ok (vSeq a l st) X P = Ok (a l st) X fun w st1 => match w with | .tup ws => P (.fix ws) st1 | .ref n => (match getL st1 n with | some _ => P (.live n) st1 | none => False) | _ => False := by
  unfold vSeq; rw [k_bind]; congr 1; funext w st1; cases w <;> try rfl
  rename_i n
  show Ok (match getL st1 n with | some _ => Res.ok (Src.live n) st1 | none => .err) X P = (match getL st1 n with | some _ => P (.live n) st1 | none => False)
  cases getL st1 n <;> rfl
theorem k_rng1 {P : Src → Sto → Prop} : Ok (vRng1 as l st) X P = Ok (as l st) X fun ws st1 => match ws with | [.int j] => if -1000000 ≤ j ∧ j ≤ 1000000 then P (.fix (upFrom 0 j.toNat)) st1 else False | _ => False := by
  unfold vRng1; rw [k_bind]; congr 1; funext w st1
  rcases w with _ | ⟨w, _ | ⟨_, _⟩⟩
  · rfl
  · cases w <;> first | rfl | exact k_ite.trans rfl
  · cases w <;> rfl
end
section
variable {D : Po4}
/-- a for over fixed items -/
theorem loop_fix {tg : Tg} {body : Sx} {s : Src} (ws : List W) (Inv : Nat → Lo → Sto → Prop) (hat : ∀ i l st, Inv i l st → s.at st i = some ws[i]?)
    (step : ∀ i w l st, ws[i]? = some w → Inv i l st → ∃ l1, tg w l st = some l1 ∧ OkS (body l1 st) { D with nx := Inv (i + 1), ct := Inv (i + 1), bk := D.nx })
    (done : ∀ l st, Inv ws.length l st → D.nx l st) : ∀ (f i : Nat) (l : Lo) (st : Sto), ws.length < f + i → i ≤ ws.length → Inv i l st → OkS (loopF s tg body f i l st) D
  | 0, i, l, st, h, h2, _ => by omega
  | f + 1, i, l, st, h, h2, inv => by
    unfold loopF
    rw [hat i l st inv]
    cases e : ws[i]? with
    | none =>
      have : i = ws.length := by
        have := List.getElem?_eq_none_iff.mp e
        omega
      subst this
      exact done l st inv
    | some w =>
      obtain ⟨l1, h3, h4⟩ := step i w l st e inv
      have hi : i < ws.length := (List.getElem?_eq_some_iff.mp e).1
      simp only [h3]
      generalize body l1 st = r at h4 ⊢
      cases r with
      | nx l2 st2 => exact loop_fix ws Inv hat step done f (i + 1) l2 st2 (by omega) (by omega) h4
      | ct l2 st2 => exact loop_fix ws Inv hat step done f (i + 1) l2 st2 (by omega) (by omega) h4
      | bk l2 st2 => exact h4
      | rt w2 st2 => exact h4
      | exc c p l2 st2 => exact h4
      | err => exact h4
/-- a comprehension's loop: acc is what is gathered -/
theorem cloop_fix {tg : Tg} {own : List Nat} {cond : Bv} {elt : Ev} {D0 : Nat} {s : Src} {l : Lo} {X : XP} {P : Unit → Sto → Prop} (ws : List W) (Inv : Nat → List W → Sto → Prop) (hat : ∀ i acc st, Inv i acc st → s.at st i = some ws[i]?)
    (step : ∀ i w acc st, ws[i]? = some w → Inv i acc st → ∃ l1, tg w (wipeL l own) st = some l1 ∧ Ok (cond l1 st) (fun _ _ _ => False) fun b st1 => if b = true then Ok (elt l1 st1) (fun _ _ _ => False) fun y st2 => ∃ us, st2.c[D0]? = some (.lst us) ∧ us.length < 1000000 ∧ Inv (i + 1) (acc ++ [y]) (st2.put D0 (.lst (us ++ [y])) (W.low D0 y)) else Inv (i + 1) acc st1)
    (done : ∀ acc st, Inv ws.length acc st → P () st) : ∀ (f i : Nat) (acc : List W) (st : Sto), ws.length < f + i → i ≤ ws.length → Inv i acc st → Ok (cLoop s tg own cond (cApp elt D0) l f i st) X P
  | 0, i, acc, st, h, h2, _ => by omega
  | f + 1, i, acc, st, h, h2, inv => by
    unfold cLoop
    rw [hat i acc st inv]
    cases e : ws[i]? with
    | none =>
      have : i = ws.length := by
        have := List.getElem?_eq_none_iff.mp e
        omega
      subst this
      exact done acc st inv
    | some w =>
      obtain ⟨l1, h3, h4⟩ := step i w acc st e inv
      have hi : i < ws.length := (List.getElem?_eq_some_iff.mp e).1
      simp only [h3]
      generalize cond l1 st = r at h4 ⊢
      cases r with
      | exc c p st1 => exact h4.elim
      | err => exact h4.elim
      | ok b st1 =>
        cases b with
        | false => exact cloop_fix ws Inv hat step done f (i + 1) acc st1 (by omega) (by omega) h4
        | true =>
          have h4 : Ok (elt l1 st1) (fun _ _ _ => False) fun y st2 => ∃ us, st2.c[D0]? = some (.lst us) ∧ us.length < 1000000 ∧ Inv (i + 1) (acc ++ [y]) (st2.put D0 (.lst (us ++ [y])) (W.low D0 y)) := h4
          simp only [if_true, cApp]
          generalize elt l1 st1 = r at h4 ⊢
          cases r with
          | exc c p st1 => exact h4.elim
          | err => exact h4.elim
          | ok y st2 =>
            obtain ⟨us, h5, h6, h7⟩ := h4
            simp only [h5, h6, if_true]
            exact cloop_fix ws Inv hat step done f (i + 1) (acc ++ [y]) _ (by omega) (by omega) h7
theorem k_comp {n : Nat} {own : List Nat} {src : Sv} {tg : Tg} {cond : Bv} {elt : Ev} {l : Lo} {st : Sto} {X : XP} {P : W → Sto → Prop} : Ok (eComp n own src tg cond elt l st) X P = Ok (src l st) X fun s st1 => Ok (cLoop s tg own cond (cApp elt st1.c.length) l n 0 (st1.push (.lst []))) X fun _ st2 => P (.ref st1.c.length) st2 := by
  unfold eComp; simp only [k_bind, k_ok]
end
end RB

set_option Elab.async false
set_option linter.all false
set_option maxRecDepth 100000
set_option maxHeartbeats 4000000
namespace RB
open PySem PySem.Spec PyProof.Rows L2
section
variable {X : XP} {P : W → Sto → Prop} {st : Sto} {a b : Int}
theorem run_eq {α : Type} {r : Res α} {a : α} {s : Sto} (h : Ok r (fun _ _ _ => False) fun b t => b = a ∧ t = s) : r = .ok a s := by
  cases r with
  | ok b t => obtain ⟨rfl, rfl⟩ := h; rfl
  | exc c p t => exact h.elim
  | err => exact h.elim
theorem run_int {r : Res W} {s : Sto} {Q : Int → Prop} (h : Ok r (fun _ _ _ => False) fun b t => ∃ v, b = .int v ∧ Q v ∧ t = s) : ∃ v, Q v ∧ r = .ok (.int v) s := by
  cases r with
  | ok b t => obtain ⟨v, rfl, q, rfl⟩ := h; exact ⟨v, q, rfl⟩
  | exc c p t => exact h.elim
  | err => exact h.elim
theorem v_add : Ok (wAdd (.int a) (.int b) st) X P = P (.int (a + b)) st := rfl
theorem v_sub : Ok (wSub (.int a) (.int b) st) X P = P (.int (a - b)) st := rfl
theorem v_mul : Ok (wMul (.int a) (.int b) st) X P = if mulOk a b = true then P (.int (a * b)) st else False := by
  show Ok (if mulOk a b = true then Res.ok (W.int (a * b)) st else .err) X P = _; rw [k_ite]; rfl
theorem v_mod : Ok (wMod (.int a) (.int b) st) X P = if 0 < b then P (.int (a % b)) st else False := by
  show Ok (if 0 < b then Res.ok (W.int (a % b)) st else .err) X P = _; rw [k_ite]; rfl
theorem v_div : Ok (wDiv (.int a) (.int b) st) X P = if divOk b = true then P (.int (a / b)) st else False := by
  show Ok (if divOk b = true then Res.ok (W.int (a / b)) st else .err) X P = _; rw [k_ite]; rfl
theorem v_lt : Ok (wLt (.int a) (.int b) st) X P = P (.bl (decide (a < b))) st := rfl
theorem v_le : Ok (wLe (.int a) (.int b) st) X P = P (.bl (decide (a ≤ b))) st := rfl
theorem v_gt : Ok (wGt (.int a) (.int b) st) X P = P (.bl (decide (b < a))) st := rfl
theorem v_ge : Ok (wGe (.int a) (.int b) st) X P = P (.bl (decide (b ≤ a))) st := rfl
theorem v_eq : Ok (wEq (.int a) (.int b) st) X P = P (.bl (decide (a = b))) st := by
  show P (.bl (PyData.eqv (.int a) (.int b))) st = _
  have : PyData.eqv (.int a) (.int b) = decide (a = b) := by first | rfl | simp [PyData.eqv]
  rw [this]
theorem v_ne : Ok (wNe (.int a) (.int b) st) X P = P (.bl (!decide (a = b))) st := by
  show P (.bl (!PyData.eqv (.int a) (.int b))) st = _
  have : PyData.eqv (.int a) (.int b) = decide (a = b) := by first | rfl | simp [PyData.eqv]
  rw [this]
theorem v_neg : Ok (wNeg (.int a) st) X P = P (.int (-a)) st := rfl
theorem v_int : Ok (fInt [.int a] st) X P = P (.int a) st := rfl
theorem v_min : Ok (fMin2 [.int a, .int b] st) X P = P (.int (if b < a then b else a)) st := rfl
theorem v_ix {x : W} {ws : List W} {w : W} (h : seqOf st x = some ws) (h2 : atI ws a = some w) : Ok (wIx x (.int a) st) X P = P w st := by
  unfold wIx; simp only [h, h2]; rfl
theorem v_lenL {x : W} {ws : List W} (hx : ∀ z, x ≠ .str z) (h : seqOf st x = some ws) : Ok (fLen [x] st) X P = P (.int (ws.length : Nat)) st := by
  cases x <;> first | exact absurd rfl (hx _) | (simp only [fLen, h]; rfl)
theorem v_tup {x : W} {ws : List W} (h : seqOf st x = some ws) : Ok (fTuple [x] st) X P = P (.tup ws) st := by
  unfold fTuple; simp only [h]; rfl
theorem atI_in {α : Type} {xs : List α} (h0 : 0 ≤ a) (h1 : a < xs.length) : atI xs a = xs[a.toNat]? := by
  unfold atI ixN; rw [if_pos h0, if_pos h1]; rfl
theorem mulOk_lt {a b : Int} {m n : Nat} (ha : a.natAbs < 2 ^ m) (hb : b.natAbs < 2 ^ n) (h0 : 0 < m) (h1 : 0 < n) (h : m + n ≤ 100000000) : mulOk a b = true := by
  have x := PySem.Flt.log2_lt_of h0 ha
  have y := PySem.Flt.log2_lt_of h1 hb
  unfold mulOk
  exact decide_eq_true (by omega)
end
end RB

set_option Elab.async false
set_option linter.all false
set_option maxRecDepth 100000
set_option maxHeartbeats 4000000
namespace LW
open PySem PySem.Spec PyProof.Rows L2 RB
def top (i : Nat) : Stmt := PySem.Challenge.pw_racebooks_k10_outcomes_of_races.main.body.getD i (.Pass ⟨0, 0, 0, 0⟩)
def ans_int : Tn → Option Bool
  | .non => some false
  | .bl => some true
  | .int => some true
  | .str => some false
  | .tup => some false
  | .lst => some false
  | .cls c => if c = 0 then some false else none
def ans_bool : Tn → Option Bool
  | .non => some false
  | .bl => some true
  | .int => some false
  | .str => some false
  | .tup => some false
  | .lst => some false
  | .cls c => if c = 0 then some false else none
def ans_list_tuple : Tn → Option Bool
  | .non => some false
  | .bl => some false
  | .int => some false
  | .str => some false
  | .tup => some true
  | .lst => some true
  | .cls c => if c = 0 then some false else none
def ans_Race : Tn → Option Bool
  | .non => some false
  | .bl => some false
  | .int => some false
  | .str => some false
  | .tup => some false
  | .lst => some false
  | .cls c => if c = 0 then some true else none
def ans_tuple : Tn → Option Bool
  | .non => some false
  | .bl => some false
  | .int => some false
  | .str => some false
  | .tup => some true
  | .lst => some false
  | .cls c => if c = 0 then some false else none
def ans_str : Tn → Option Bool
  | .non => some false
  | .bl => some false
  | .int => some false
  | .str => some true
  | .tup => some false
  | .lst => some false
  | .cls c => if c = 0 then some false else none
def is_BadValue (k : Nat) : Option Bool := if k < 1 then some (k == 0) else none
structure TX (K : PySem.W.Frag) (mg : Str → Option Value) (cl ec : Nat → Addr) (fld : Nat → Str) : Prop where
  b_all : mg "all" = none
  b_bool : mg "bool" = none
  b_int : mg "int" = none
  b_isinstance : mg "isinstance" = none
  b_len : mg "len" = none
  b_list : mg "list" = none
  b_range : mg "range" = none
  b_set : mg "set" = none
  b_sorted : mg "sorted" = none
  b_str : mg "str" = none
  b_tuple : mg "tuple" = none
  na_Race__absent : NoAttr K (cl 0) "_absent"
  na_Race__cuts : NoAttr K (cl 0) "_cuts"
  na_Race__runners : NoAttr K (cl 0) "_runners"
  na_Race__ties : NoAttr K (cl 0) "_ties"
  k_MOST_CUT : ∃ t, mg "MOST_CUT" = some (.int 90 t)
  k_MOST_RUNNERS : ∃ t, mg "MOST_RUNNERS" = some (.int 4 t)
  c_Race : ClsI K (cl 0)
  m_Race : mg "Race" = some (.ref (cl 0))
  e_BadValue : PySem.ErrX.ErrC K (ec 0) (fld 0)
  ef_BadValue : fld 0 = "at"
  em_BadValue : mg "BadValue" = some (.ref (ec 0))
  ai_int : AllI ⟨K, cl, ec, fld⟩ ans_int
  an_int : Ans ⟨K, cl, ec, fld⟩ [.int] ans_int
  ai_bool : AllI ⟨K, cl, ec, fld⟩ ans_bool
  an_bool : Ans ⟨K, cl, ec, fld⟩ [.bl] ans_bool
  ai_list_tuple : AllI ⟨K, cl, ec, fld⟩ ans_list_tuple
  an_list_tuple : Ans ⟨K, cl, ec, fld⟩ [.lst, .tup] ans_list_tuple
  ai_Race : AllI ⟨K, cl, ec, fld⟩ ans_Race
  an_Race : Ans ⟨K, cl, ec, fld⟩ [.cls 0] ans_Race
  ai_tuple : AllI ⟨K, cl, ec, fld⟩ ans_tuple
  an_tuple : Ans ⟨K, cl, ec, fld⟩ [.tup] ans_tuple
  ai_str : AllI ⟨K, cl, ec, fld⟩ ans_str
  an_str : Ans ⟨K, cl, ec, fld⟩ [.str] ans_str
section
variable {P : Program} {w : World} {K : PySem.W.Frag} {mg : Str → Option Value} {base : Heap} {cl ec : Nat → Addr} {fld : Nat → Str}
abbrev s_is_integer : Stmt := top 4
def F_is_integer : List W → Sto → Res W := defn 1 (sRet (eAnd (eIsi ans_int (eLoc 0)) (eNot (eIsi ans_bool (eLoc 0)))))
theorem sc_is_integer : FnScope ["value"] ["value"] (defScope s_is_integer) := ⟨rfl, rfl, rfl, by decide +kernel, rfl, by decide +kernel, by decide +kernel⟩
theorem ok_is_integer {f : Addr} {fd : FuncData} (F : L2.Fun K "is_integer" "is_integer" s_is_integer f fd) (T : TX K mg cl ec fld) : FnOk P w K mg base (L2.CX P w) 1 f fd ["value"] (spF ⟨K, cl, ec, fld⟩ 1 F_is_integer) := by
  refine q_ok F sc_is_integer rfl rfl fun cdv A outer s H E hr => ?_
  have TK := takes_of (X := cxOf (L2.CX P w) P w K mg base ["value"] "is_integer" (defScope s_is_integer) f cdv A outer s H E) rfl rfl rfl rfl
  exact qs_one (qs_ret (qe_and (qe_isi1 (T := .int) T.ai_int rfl (by rfl) T.b_isinstance (qe_loc 0) (pe_bltn (v := .ty "int") (by rfl) T.b_int (by decide +kernel) rfl) (.ty _) T.an_int) (qe_one (qe_not (qe_isi1 (T := .bl) T.ai_bool rfl (by rfl) T.b_isinstance (qe_loc 0) (pe_bltn (v := .ty "bool") (by rfl) T.b_bool (by decide +kernel) rfl) (.ty _) T.an_bool)))))
abbrev s_is_integer_within : Stmt := top 5
def F_is_integer_within : List W → Sto → Res W := defn 3 (sRet (eAnd (eCall (F_is_integer) [] (evCons (eLoc 0) (evNil))) (eChain wLe wLe (eLoc 1) (eLoc 0) (eLoc 2))))
theorem sc_is_integer_within : FnScope ["value", "least", "most"] ["value", "least", "most"] (defScope s_is_integer_within) := ⟨rfl, rfl, rfl, by decide +kernel, rfl, by decide +kernel, by decide +kernel⟩
theorem ok_is_integer_within {f : Addr} {fd : FuncData} (F : L2.Fun K "is_integer_within" "is_integer_within" s_is_integer_within f fd) (T : TX K mg cl ec fld) (G_is_integer : Fn ⟨K, cl, ec, fld⟩ P w mg base 1 "is_integer" 1 [] F_is_integer) : FnOk P w K mg base (L2.CX P w) 2 f fd ["value", "least", "most"] (spF ⟨K, cl, ec, fld⟩ 3 F_is_integer_within) := by
  refine q_ok F sc_is_integer_within rfl rfl fun cdv A outer s H E hr => ?_
  have TK := takes_of (X := cxOf (L2.CX P w) P w K mg base ["value", "least", "most"] "is_integer_within" (defScope s_is_integer_within) f cdv A outer s H E) rfl rfl rfl rfl
  exact qs_one (qs_ret (qe_and (qe_call1 G_is_integer rfl (hr.mono (by first | exact Nat.le_refl _ | omega)) TK (by rfl) (qa_cons (qe_loc 0) (qa_nil)) 1 rfl (evLen_cons evLen_nil)) (qe_one (q_chain c_le c_le (qe_loc 1) (qe_loc 0) (qe_loc 2)))))
abbrev s_is_sequence : Stmt := top 6
def F_is_sequence : List W → Sto → Res W := defn 1 (sRet (eIsi ans_list_tuple (eLoc 0)))
theorem sc_is_sequence : FnScope ["value"] ["value"] (defScope s_is_sequence) := ⟨rfl, rfl, rfl, by decide +kernel, rfl, by decide +kernel, by decide +kernel⟩
theorem ok_is_sequence {f : Addr} {fd : FuncData} (F : L2.Fun K "is_sequence" "is_sequence" s_is_sequence f fd) (T : TX K mg cl ec fld) : FnOk P w K mg base (L2.CX P w) 1 f fd ["value"] (spF ⟨K, cl, ec, fld⟩ 1 F_is_sequence) := by
  refine q_ok F sc_is_sequence rfl rfl fun cdv A outer s H E hr => ?_
  have TK := takes_of (X := cxOf (L2.CX P w) P w K mg base ["value"] "is_sequence" (defScope s_is_sequence) f cdv A outer s H E) rfl rfl rfl rfl
  exact qs_one (qs_ret (qe_isi2 (T1 := .lst) (T2 := .tup) T.ai_list_tuple rfl (by rfl) T.b_isinstance (qe_loc 0) (pe_bltn (v := .ty "list") (by rfl) T.b_list (by decide +kernel) rfl) (.ty _) (pe_bltn (v := .ty "tuple") (by rfl) T.b_tuple (by decide +kernel) rfl) (.ty _) T.an_list_tuple))
abbrev s_need_race : Stmt := top 11
def F_need_race : List W → Sto → Res W := defn 2 (sIf (bNot (bTru (eIsi ans_Race (eLoc 0)))) (sRaise 0 (evCons (eLoc 1) (evNil))) (sNil))
theorem sc_need_race : FnScope ["race", "at"] ["race", "at"] (defScope s_need_race) := ⟨rfl, rfl, rfl, by decide +kernel, rfl, by decide +kernel, by decide +kernel⟩
theorem ok_need_race {f : Addr} {fd : FuncData} (F : L2.Fun K "need_race" "need_race" s_need_race f fd) (T : TX K mg cl ec fld) : FnOk P w K mg base (L2.CX P w) 2 f fd ["race", "at"] (spF ⟨K, cl, ec, fld⟩ 2 F_need_race) := by
  refine q_ok F sc_need_race rfl rfl fun cdv A outer s H E hr => ?_
  have TK := takes_of (X := cxOf (L2.CX P w) P w K mg base ["race", "at"] "need_race" (defScope s_need_race) f cdv A outer s H E) rfl rfl rfl rfl
  exact qs_one (qs_if (qt_not (qt_tru rfl (qe_isi1 (T := (.cls 0)) T.ai_Race rfl (by rfl) T.b_isinstance (qe_loc 0) (pe_glob (v := .ref _) (by rfl) T.m_Race rfl) (.own _) T.an_Race))) (qs_one (qs_raise (c := 0) rfl (by rfl) T.e_BadValue T.em_BadValue hr TK rfl (qa_cons (qe_loc 1) (qa_nil)))) (qs_nil))
abbrev s__subsets : Stmt := top 20
def F__subsets : List W → Sto → Res W := defn 4 (sSeq (sSet (tgName 1) (eLst (evCons (eTup (evNil)) (evNil)))) (sSeq (sFor 1000000 (vSeq (eLoc 0)) (tgName 2) (sSet (tgName 1) (eBin wAdd (eLoc 1) (eComp 1000000 [3] (vSeq (eLoc 1)) (tgName 3) (bYes) (eBin wAdd (eLoc 3) (eTup (evCons (eLoc 2) (evNil)))))))) (sRet (eLoc 1))))
theorem sc__subsets : FnScope ["runners", "found", "runner", "chosen"] ["runners"] (defScope s__subsets) := ⟨rfl, rfl, rfl, by decide +kernel, rfl, by decide +kernel, by decide +kernel⟩
theorem ok__subsets {f : Addr} {fd : FuncData} (F : L2.Fun K "_subsets" "_subsets" s__subsets f fd) (T : TX K mg cl ec fld) : FnOk P w K mg base (L2.CX P w) 1 f fd ["runners"] (spF ⟨K, cl, ec, fld⟩ 1 F__subsets) := by
  refine q_ok F sc__subsets rfl rfl fun cdv A outer s H E hr => ?_
  have TK := takes_of (X := cxOf (L2.CX P w) P w K mg base ["runners", "found", "runner", "chosen"] "_subsets" (defScope s__subsets) f cdv A outer s H E) rfl rfl rfl rfl
  exact qs_cons (qs_set (qe_lst (qa_cons (qe_tup (qa_nil)) (qa_nil))) (qg_name (i := 1) (sc__subsets).nd rfl (by first | exact Or.inl rfl | exact Or.inr rfl))) (qs_cons (qs_for (n := 1000000) (passes_of (K := _) rfl) rfl (qi_seq rfl (qe_loc 0)) (qg_name (i := 2) (sc__subsets).nd rfl (by first | exact Or.inl rfl | exact Or.inr rfl)) (qs_one (qs_set (q_add rfl (qe_loc 1) (qe_comp (own := [("chosen", 3)]) (n := 1000000) rfl (sc__subsets).nd (qi_seq rfl (qe_loc 1)) (by change BlkOk ["runners", "found", "runner", "chosen"] (defScope s__subsets) _ _; exact blkOk_by (by decide +kernel)) (fun _ _ _ _ _ => pg_name (i := 3) (sc__subsets).nd rfl (by first | exact Or.inl rfl | exact Or.inr rfl)) (ct_name (by decide)) (fun _ _ _ _ _ => qc_nil) (fun _ _ _ _ _ => q_add rfl (qe_loc 3) (qe_tup (qa_cons (qe_loc 2) (qa_nil)))))) (qg_name (i := 1) (sc__subsets).nd rfl (by first | exact Or.inl rfl | exact Or.inr rfl))))) (qs_one (qs_ret (qe_loc 1))))
abbrev s_Race_absent : Stmt := inClass (top 10) 3
def F_Race_absent : List W → Sto → Res W := defn 1 (sRet (eFld 0 "_absent" (eLoc 0)))
theorem sc_Race_absent : FnScope ["self"] ["self"] (defScope s_Race_absent) := ⟨rfl, rfl, rfl, by decide +kernel, rfl, by decide +kernel, by decide +kernel⟩
theorem ok_Race_absent {f : Addr} {fd : FuncData} (F : L2.Fun K "absent" "Race.absent" s_Race_absent f fd) (T : TX K mg cl ec fld) : FnOk P w K mg base (L2.CX P w) 1 f fd ["self"] (spF ⟨K, cl, ec, fld⟩ 1 F_Race_absent) := by
  refine q_ok F sc_Race_absent rfl rfl fun cdv A outer s H E hr => ?_
  have TK := takes_of (X := cxOf (L2.CX P w) P w K mg base ["self"] "Race.absent" (defScope s_Race_absent) f cdv A outer s H E) rfl rfl rfl rfl
  exact qs_one (qs_ret (qe_fld rfl T.c_Race.cl T.na_Race__absent (qe_loc 0)))
abbrev s_Race_runners : Stmt := inClass (top 10) 1
def F_Race_runners : List W → Sto → Res W := defn 1 (sRet (eFld 0 "_runners" (eLoc 0)))
theorem sc_Race_runners : FnScope ["self"] ["self"] (defScope s_Race_runners) := ⟨rfl, rfl, rfl, by decide +kernel, rfl, by decide +kernel, by decide +kernel⟩
theorem ok_Race_runners {f : Addr} {fd : FuncData} (F : L2.Fun K "runners" "Race.runners" s_Race_runners f fd) (T : TX K mg cl ec fld) : FnOk P w K mg base (L2.CX P w) 1 f fd ["self"] (spF ⟨K, cl, ec, fld⟩ 1 F_Race_runners) := by
  refine q_ok F sc_Race_runners rfl rfl fun cdv A outer s H E hr => ?_
  have TK := takes_of (X := cxOf (L2.CX P w) P w K mg base ["self"] "Race.runners" (defScope s_Race_runners) f cdv A outer s H E) rfl rfl rfl rfl
  exact qs_one (qs_ret (qe_fld rfl T.c_Race.cl T.na_Race__runners (qe_loc 0)))
abbrev s__may_come_level : Stmt := top 19
def F__may_come_level : List W → Sto → Res W := defn 2 (sRet (eOr (eBin wEq (eLoc 0) (eLit (.int 1))) (eAnd (eLoc 1) (eBin wGt (eLoc 0) (eLit (.int 1))))))
theorem sc__may_come_level : FnScope ["many", "ties"] ["many", "ties"] (defScope s__may_come_level) := ⟨rfl, rfl, rfl, by decide +kernel, rfl, by decide +kernel, by decide +kernel⟩
theorem ok__may_come_level {f : Addr} {fd : FuncData} (F : L2.Fun K "_may_come_level" "_may_come_level" s__may_come_level f fd) (T : TX K mg cl ec fld) : FnOk P w K mg base (L2.CX P w) 1 f fd ["many", "ties"] (spF ⟨K, cl, ec, fld⟩ 2 F__may_come_level) := by
  refine q_ok F sc__may_come_level rfl rfl fun cdv A outer s H E hr => ?_
  have TK := takes_of (X := cxOf (L2.CX P w) P w K mg base ["many", "ties"] "_may_come_level" (defScope s__may_come_level) f cdv A outer s H E) rfl rfl rfl rfl
  exact qs_one (qs_ret (qe_or (q_cmp (c_eq rfl hr) (qe_loc 0) (qe_int)) (qe_one (qe_and (qe_loc 1) (qe_one (q_cmp c_gt (qe_loc 0) (qe_int)))))))
abbrev s__without : Stmt := top 21
def F__without : List W → Sto → Res W := defn 3 (sRet (eComp 1000000 [2] (vSeq (eLoc 0)) (tgName 2) (bVal (eBin wNotIn (eLoc 2) (eLoc 1))) (eLoc 2)))
theorem sc__without : FnScope ["runners", "chosen", "runner"] ["runners", "chosen"] (defScope s__without) := ⟨rfl, rfl, rfl, by decide +kernel, rfl, by decide +kernel, by decide +kernel⟩
theorem ok__without {f : Addr} {fd : FuncData} (F : L2.Fun K "_without" "_without" s__without f fd) (T : TX K mg cl ec fld) : FnOk P w K mg base (L2.CX P w) 1 f fd ["runners", "chosen"] (spF ⟨K, cl, ec, fld⟩ 2 F__without) := by
  refine q_ok F sc__without rfl rfl fun cdv A outer s H E hr => ?_
  have TK := takes_of (X := cxOf (L2.CX P w) P w K mg base ["runners", "chosen", "runner"] "_without" (defScope s__without) f cdv A outer s H E) rfl rfl rfl rfl
  exact qs_one (qs_ret (qe_comp (own := [("runner", 2)]) (n := 1000000) rfl (sc__without).nd (qi_seq rfl (qe_loc 0)) (by change BlkOk ["runners", "chosen", "runner"] (defScope s__without) _ _; exact blkOk_by (by decide +kernel)) (fun _ _ _ _ _ => pg_name (i := 2) (sc__without).nd rfl (by first | exact Or.inl rfl | exact Or.inr rfl)) (ct_name (by decide)) (fun _ _ _ _ _ => qc_one (t_cmp (c_notIn rfl hr) (qe_loc 2) (qe_loc 1))) (fun _ _ _ _ _ => qe_loc 2)))
abbrev s__orders : Stmt := top 22
def F__orders : Nat → List W → Sto → Res W
  | 0 => fun _ _ => .err
  | d + 1 => defn 5 (sSeq (sIf (bVal (eBin wEq (eB fLen (evCons (eLoc 0) (evNil))) (eLit (.int 0)))) (sRet (eLst (evCons (eTup (evNil)) (evNil)))) (sNil)) (sSeq (sSet (tgName 2) (eLst (evNil))) (sSeq (sFor 1000000 (vSeq (eCall (F__subsets) [] (evCons (eLoc 0) (evNil)))) (tgName 3) (sIf (bTru (eCall (F__may_come_level) [] (evCons (eB fLen (evCons (eLoc 3) (evNil))) (evCons (eLoc 1) (evNil))))) (sDrop (eMt fExtend (eLoc 2) (evCons (eComp 1000000 [4] (vSeq (eCall (F__orders d) [] (evCons (eCall (F__without) [] (evCons (eLoc 0) (evCons (eLoc 3) (evNil)))) (evCons (eLoc 1) (evNil))))) (tgName 4) (bYes) (eBin wAdd (eTup (evCons (eLoc 3) (evNil))) (eLoc 4))) (evNil)))) (sNil))) (sRet (eLoc 2)))))
theorem sc__orders : FnScope ["runners", "ties", "found", "group", "behind"] ["runners", "ties"] (defScope s__orders) := ⟨rfl, rfl, rfl, by decide +kernel, rfl, by decide +kernel, by decide +kernel⟩
theorem ok__orders {f : Addr} {fd : FuncData} (F : L2.Fun K "_orders" "_orders" s__orders f fd) (T : TX K mg cl ec fld) (G__subsets : Fn ⟨K, cl, ec, fld⟩ P w mg base 1 "_subsets" 1 [] F__subsets) (G__may_come_level : Fn ⟨K, cl, ec, fld⟩ P w mg base 1 "_may_come_level" 2 [] F__may_come_level) (G__without : Fn ⟨K, cl, ec, fld⟩ P w mg base 1 "_without" 2 [] F__without) {d : Nat} (G_self : Fn ⟨K, cl, ec, fld⟩ P w mg base (1 + d) "_orders" 2 [] (F__orders d)) : FnOk P w K mg base (L2.CX P w) (1 + d + 1) f fd ["runners", "ties"] (spF ⟨K, cl, ec, fld⟩ 2 (F__orders (d + 1))) := by
  refine q_ok F sc__orders rfl rfl fun cdv A outer s H E hr => ?_
  have TK := takes_of (X := cxOf (L2.CX P w) P w K mg base ["runners", "ties", "found", "group", "behind"] "_orders" (defScope s__orders) f cdv A outer s H E) rfl rfl rfl rfl
  exact qs_cons (qs_if (t_cmp (c_eq rfl hr) (qe_blt call_len (ok_len rfl) (by rfl) T.b_len (by decide +kernel) (qa_cons (qe_loc 0) (qa_nil))) (qe_int)) (qs_one (qs_ret (qe_lst (qa_cons (qe_tup (qa_nil)) (qa_nil))))) (qs_nil)) (qs_cons (qs_set (qe_lst (qa_nil)) (qg_name (i := 2) (sc__orders).nd rfl (by first | exact Or.inl rfl | exact Or.inr rfl))) (qs_cons (qs_for (n := 1000000) (passes_of (K := _) rfl) rfl (qi_seq rfl (qe_call1 G__subsets rfl (hr.mono (by first | exact Nat.le_refl _ | omega)) TK (by rfl) (qa_cons (qe_loc 0) (qa_nil)) 1 rfl (evLen_cons evLen_nil))) (qg_name (i := 3) (sc__orders).nd rfl (by first | exact Or.inl rfl | exact Or.inr rfl)) (qs_one (qs_if (qt_tru rfl (qe_call1 G__may_come_level rfl (hr.mono (by first | exact Nat.le_refl _ | omega)) TK (by rfl) (qa_cons (qe_blt call_len (ok_len rfl) (by rfl) T.b_len (by decide +kernel) (qa_cons (qe_loc 3) (qa_nil))) (qa_cons (qe_loc 1) (qa_nil))) 2 rfl (evLen_cons (evLen_cons evLen_nil)))) (qs_one (qs_drop (qe_mt rfl PySem.F.slot_list_extend PySem.F.type_list_extend mt_extend mok_extend (qe_loc 2) (qa_cons (qe_comp (own := [("behind", 4)]) (n := 1000000) rfl (sc__orders).nd (qi_seq rfl (qe_call1 G_self rfl (hr.mono (by omega)) TK (by rfl) (qa_cons (qe_call1 G__without rfl (hr.mono (by first | exact Nat.le_refl _ | omega)) TK (by rfl) (qa_cons (qe_loc 0) (qa_cons (qe_loc 3) (qa_nil))) 2 rfl (evLen_cons (evLen_cons evLen_nil))) (qa_cons (qe_loc 1) (qa_nil))) 2 rfl (evLen_cons (evLen_cons evLen_nil)))) (by change BlkOk ["runners", "ties", "found", "group", "behind"] (defScope s__orders) _ _; exact blkOk_by (by decide +kernel)) (fun _ _ _ _ _ => pg_name (i := 4) (sc__orders).nd rfl (by first | exact Or.inl rfl | exact Or.inr rfl)) (ct_name (by decide)) (fun _ _ _ _ _ => qc_nil) (fun _ _ _ _ _ => q_add rfl (qe_tup (qa_cons (qe_loc 3) (qa_nil))) (qe_loc 4))) (qa_nil))))) (qs_nil)))) (qs_one (qs_ret (qe_loc 2)))))
abbrev s_Race_ties : Stmt := inClass (top 10) 2
def F_Race_ties : List W → Sto → Res W := defn 1 (sRet (eFld 0 "_ties" (eLoc 0)))
theorem sc_Race_ties : FnScope ["self"] ["self"] (defScope s_Race_ties) := ⟨rfl, rfl, rfl, by decide +kernel, rfl, by decide +kernel, by decide +kernel⟩
theorem ok_Race_ties {f : Addr} {fd : FuncData} (F : L2.Fun K "ties" "Race.ties" s_Race_ties f fd) (T : TX K mg cl ec fld) : FnOk P w K mg base (L2.CX P w) 1 f fd ["self"] (spF ⟨K, cl, ec, fld⟩ 1 F_Race_ties) := by
  refine q_ok F sc_Race_ties rfl rfl fun cdv A outer s H E hr => ?_
  have TK := takes_of (X := cxOf (L2.CX P w) P w K mg base ["self"] "Race.ties" (defScope s_Race_ties) f cdv A outer s H E) rfl rfl rfl rfl
  exact qs_one (qs_ret (qe_fld rfl T.c_Race.cl T.na_Race__ties (qe_loc 0)))
abbrev s_outcomes : Stmt := top 12
def F_outcomes : List W → Sto → Res W := defn 6 (sSeq (sDrop (eCall (F_need_race) [] (evCons (eLoc 0) (evCons (eLit (.int 1)) (evNil))))) (sSeq (sSet (tgName 1) (eComp 1000000 [5] (vRng1 (evCons (eProp 0 F_Race_runners (eLoc 0)) (evNil))) (tgName 5) (bVal (eBin wNotIn (eLoc 5) (eProp 0 F_Race_absent (eLoc 0)))) (eLoc 5))) (sSeq (sSet (tgName 2) (eLst (evNil))) (sSeq (sFor 1000000 (vSeq (eCall (F__subsets) [] (evCons (eProp 0 F_Race_absent (eLoc 0)) (evNil)))) (tgName 3) (sSeq (sSet (tgName 4) (eB fSortD (evCons (eBin wAdd (eLoc 1) (eB fList (evCons (eLoc 3) (evNil)))) (evNil)))) (sIf (bVal (eBin wGt (eB fLen (evCons (eLoc 4) (evNil))) (eLit (.int 0)))) (sDrop (eMt fExtend (eLoc 2) (evCons (eCall (F__orders 6) [] (evCons (eLoc 4) (evCons (eProp 0 F_Race_ties (eLoc 0)) (evNil)))) (evNil)))) (sNil)))) (sRet (eB fTuple (evCons (eB fSortD (evCons (eLoc 2) (evNil))) (evNil))))))))
theorem sc_outcomes : FnScope ["race", "always", "found", "chosen", "running", "runner"] ["race"] (defScope s_outcomes) := ⟨rfl, rfl, rfl, by decide +kernel, rfl, by decide +kernel, by decide +kernel⟩
theorem ok_outcomes {f : Addr} {fd : FuncData} (F : L2.Fun K "outcomes" "outcomes" s_outcomes f fd) (T : TX K mg cl ec fld) (G_need_race : Fn ⟨K, cl, ec, fld⟩ P w mg base 2 "need_race" 2 [] F_need_race) (G__subsets : Fn ⟨K, cl, ec, fld⟩ P w mg base 1 "_subsets" 1 [] F__subsets) (G_Race_absent : FnP ⟨K, cl, ec, fld⟩ P w mg base 1 "absent" 0 F_Race_absent) (G_Race_runners : FnP ⟨K, cl, ec, fld⟩ P w mg base 1 "runners" 0 F_Race_runners) (G__orders : Fn ⟨K, cl, ec, fld⟩ P w mg base 7 "_orders" 2 [] (F__orders 6)) (G_Race_ties : FnP ⟨K, cl, ec, fld⟩ P w mg base 1 "ties" 0 F_Race_ties) : FnOk P w K mg base (L2.CX P w) 8 f fd ["race"] (spF ⟨K, cl, ec, fld⟩ 1 F_outcomes) := by
  refine q_ok F sc_outcomes rfl rfl fun cdv A outer s H E hr => ?_
  have TK := takes_of (X := cxOf (L2.CX P w) P w K mg base ["race", "always", "found", "chosen", "running", "runner"] "outcomes" (defScope s_outcomes) f cdv A outer s H E) rfl rfl rfl rfl
  exact qs_cons (qs_drop (qe_call1 G_need_race rfl (hr.mono (by first | exact Nat.le_refl _ | omega)) TK (by rfl) (qa_cons (qe_loc 0) (qa_cons (qe_int) (qa_nil))) 2 rfl (evLen_cons (evLen_cons evLen_nil)))) (qs_cons (qs_comp (own := [("runner", 5)]) (n := 1000000) (i := 1) rfl (sc_outcomes).nd rfl rfl rfl (qi_rng1 (by rfl) T.b_range (qa_cons (q_prop G_Race_runners rfl T.c_Race.cl (hr.mono (by first | exact Nat.le_refl _ | omega)) (qe_loc 0)) (qa_nil))) (by change BlkOk ["race", "always", "found", "chosen", "running", "runner"] (defScope s_outcomes) _ _; exact blkOk_by (by decide +kernel)) (fun _ _ _ _ _ => pg_name (i := 5) (sc_outcomes).nd rfl (by first | exact Or.inl rfl | exact Or.inr rfl)) (ct_name (by decide)) (fun _ _ _ _ _ => qc_one (t_cmp (c_notIn rfl hr) (qe_loc 5) (q_prop G_Race_absent rfl T.c_Race.cl (hr.mono (by first | exact Nat.le_refl _ | omega)) (qe_loc 0)))) (fun _ _ _ _ _ => qe_loc 5)) (qs_cons (qs_set (qe_lst (qa_nil)) (qg_name (i := 2) (sc_outcomes).nd rfl (by first | exact Or.inl rfl | exact Or.inr rfl))) (qs_cons (qs_for (n := 1000000) (passes_of (K := _) rfl) rfl (qi_seq rfl (qe_call1 G__subsets rfl (hr.mono (by first | exact Nat.le_refl _ | omega)) TK (by rfl) (qa_cons (q_prop G_Race_absent rfl T.c_Race.cl (hr.mono (by first | exact Nat.le_refl _ | omega)) (qe_loc 0)) (qa_nil)) 1 rfl (evLen_cons evLen_nil))) (qg_name (i := 3) (sc_outcomes).nd rfl (by first | exact Or.inl rfl | exact Or.inr rfl)) (qs_cons (qs_set (qe_blt (cr_sortD (un64 hr)) (ok_sortD rfl) (by rfl) T.b_sorted (by decide +kernel) (qa_cons (q_add rfl (qe_loc 1) (qe_typ call_list_of (ok_list rfl) (by rfl) T.b_list (by decide +kernel) (qa_cons (qe_loc 3) (qa_nil)))) (qa_nil))) (qg_name (i := 4) (sc_outcomes).nd rfl (by first | exact Or.inl rfl | exact Or.inr rfl))) (qs_one (qs_if (t_cmp c_gt (qe_blt call_len (ok_len rfl) (by rfl) T.b_len (by decide +kernel) (qa_cons (qe_loc 4) (qa_nil))) (qe_int)) (qs_one (qs_drop (qe_mt rfl PySem.F.slot_list_extend PySem.F.type_list_extend mt_extend mok_extend (qe_loc 2) (qa_cons (qe_call1 G__orders rfl (hr.mono (by first | exact Nat.le_refl _ | omega)) TK (by rfl) (qa_cons (qe_loc 4) (qa_cons (q_prop G_Race_ties rfl T.c_Race.cl (hr.mono (by first | exact Nat.le_refl _ | omega)) (qe_loc 0)) (qa_nil))) 2 rfl (evLen_cons (evLen_cons evLen_nil))) (qa_nil))))) (qs_nil))))) (qs_one (qs_ret (qe_typ call_tuple_of (ok_tuple rfl) (by rfl) T.b_tuple (by decide +kernel) (qa_cons (qe_blt (cr_sortD (un64 hr)) (ok_sortD rfl) (by rfl) T.b_sorted (by decide +kernel) (qa_cons (qe_loc 2) (qa_nil))) (qa_nil))))))))
abbrev s_running_in : Stmt := top 14
def F_running_in : List W → Sto → Res W := defn 3 (sRet (eComp2 1000000 [1, 2] [2] (vSeq (eLoc 0)) (tgName 1) (bYes) (vSeq (eLoc 1)) (tgName 2) (bYes) (eLoc 2)))
theorem sc_running_in : FnScope ["outcome", "group", "runner"] ["outcome"] (defScope s_running_in) := ⟨rfl, rfl, rfl, by decide +kernel, rfl, by decide +kernel, by decide +kernel⟩
theorem ok_running_in {f : Addr} {fd : FuncData} (F : L2.Fun K "running_in" "running_in" s_running_in f fd) (T : TX K mg cl ec fld) : FnOk P w K mg base (L2.CX P w) 1 f fd ["outcome"] (spF ⟨K, cl, ec, fld⟩ 1 F_running_in) := by
  refine q_ok F sc_running_in rfl rfl fun cdv A outer s H E hr => ?_
  have TK := takes_of (X := cxOf (L2.CX P w) P w K mg base ["outcome", "group", "runner"] "running_in" (defScope s_running_in) f cdv A outer s H E) rfl rfl rfl rfl
  exact qs_one (qs_ret (qe_comp2 (own := [("group", 1), ("runner", 2)]) (n := 1000000) rfl (sc_running_in).nd (qi_seq rfl (qe_loc 0)) (by change BlkOk ["outcome", "group", "runner"] (defScope s_running_in) _ _; exact blkOk_by (by decide +kernel)) (by decide) (fun _ _ _ _ _ => pg_name (i := 1) (sc_running_in).nd rfl (by first | exact Or.inl rfl | exact Or.inr rfl)) (ct_name (by decide)) (fun _ _ _ _ _ => qc_nil) (fun _ _ _ _ _ => qi_seq rfl (qe_loc 1)) (fun _ _ _ _ _ => pg_name (i := 2) (sc_running_in).nd rfl (by first | exact Or.inl rfl | exact Or.inr rfl)) (ct_name (by decide)) (fun _ _ _ _ _ => qc_nil) (fun _ _ _ _ _ => qe_loc 2)))
abbrev s__are_runners : Stmt := top 16
def F__are_runners : List W → Sto → Res W := defn 3 (sRet (eAnd (eCall (F_is_sequence) [] (evCons (eLoc 0) (evNil))) (eB fAll (evCons (eComp 1000000 [2] (vSeq (eLoc 0)) (tgName 2) (bYes) (eCall (F_is_integer_within) [] (evCons (eLoc 2) (evCons (eLit (.int 0)) (evCons (eBin wSub (eLoc 1) (eLit (.int 1))) (evNil)))))) (evNil)))))
theorem sc__are_runners : FnScope ["value", "runners", "part"] ["value", "runners"] (defScope s__are_runners) := ⟨rfl, rfl, rfl, by decide +kernel, rfl, by decide +kernel, by decide +kernel⟩
theorem ok__are_runners {f : Addr} {fd : FuncData} (F : L2.Fun K "_are_runners" "_are_runners" s__are_runners f fd) (T : TX K mg cl ec fld) (G_is_sequence : Fn ⟨K, cl, ec, fld⟩ P w mg base 1 "is_sequence" 1 [] F_is_sequence) (G_is_integer_within : Fn ⟨K, cl, ec, fld⟩ P w mg base 2 "is_integer_within" 3 [] F_is_integer_within) : FnOk P w K mg base (L2.CX P w) 3 f fd ["value", "runners"] (spF ⟨K, cl, ec, fld⟩ 2 F__are_runners) := by
  refine q_ok F sc__are_runners rfl rfl fun cdv A outer s H E hr => ?_
  have TK := takes_of (X := cxOf (L2.CX P w) P w K mg base ["value", "runners", "part"] "_are_runners" (defScope s__are_runners) f cdv A outer s H E) rfl rfl rfl rfl
  exact qs_one (qs_ret (qe_and (qe_call1 G_is_sequence rfl (hr.mono (by first | exact Nat.le_refl _ | omega)) TK (by rfl) (qa_cons (qe_loc 0) (qa_nil)) 1 rfl (evLen_cons evLen_nil)) (qe_one (qe_blt (cr_all rfl) (ok_all rfl) (by rfl) T.b_all (by decide +kernel) (qa_cons (qe_comp (own := [("part", 2)]) (n := 1000000) rfl (sc__are_runners).nd (qi_seq rfl (qe_loc 0)) (by change BlkOk ["value", "runners", "part"] (defScope s__are_runners) _ _; exact blkOk_by (by decide +kernel)) (fun _ _ _ _ _ => pg_name (i := 2) (sc__are_runners).nd rfl (by first | exact Or.inl rfl | exact Or.inr rfl)) (ct_name (by decide)) (fun _ _ _ _ _ => qc_nil) (fun _ _ _ _ _ => qe_call1 G_is_integer_within rfl (hr.mono (by first | exact Nat.le_refl _ | omega)) (takesX (CX := L2.CX P w)) (by rfl) (qa_cons (qe_loc 2) (qa_cons (qe_int) (qa_cons (q_sub (qe_loc 1) (qe_int)) (qa_nil)))) 3 rfl (evLen_cons (evLen_cons (evLen_cons evLen_nil))))) (qa_nil))))))
abbrev s__is_ascending : Stmt := top 15
def F__is_ascending : List W → Sto → Res W := defn 2 (sRet (eAnd (eCall (F__are_runners) [] (evCons (eLoc 0) (evCons (eLoc 1) (evNil)))) (eBin wEq (eB fList (evCons (eLoc 0) (evNil))) (eU fSortSet (eLoc 0)))))
theorem sc__is_ascending : FnScope ["value", "runners"] ["value", "runners"] (defScope s__is_ascending) := ⟨rfl, rfl, rfl, by decide +kernel, rfl, by decide +kernel, by decide +kernel⟩
theorem ok__is_ascending {f : Addr} {fd : FuncData} (F : L2.Fun K "_is_ascending" "_is_ascending" s__is_ascending f fd) (T : TX K mg cl ec fld) (G__are_runners : Fn ⟨K, cl, ec, fld⟩ P w mg base 3 "_are_runners" 2 [] F__are_runners) : FnOk P w K mg base (L2.CX P w) 4 f fd ["value", "runners"] (spF ⟨K, cl, ec, fld⟩ 2 F__is_ascending) := by
  refine q_ok F sc__is_ascending rfl rfl fun cdv A outer s H E hr => ?_
  have TK := takes_of (X := cxOf (L2.CX P w) P w K mg base ["value", "runners"] "_is_ascending" (defScope s__is_ascending) f cdv A outer s H E) rfl rfl rfl rfl
  exact qs_one (qs_ret (qe_and (qe_call1 G__are_runners rfl (hr.mono (by first | exact Nat.le_refl _ | omega)) TK (by rfl) (qa_cons (qe_loc 0) (qa_cons (qe_loc 1) (qa_nil))) 2 rfl (evLen_cons (evLen_cons evLen_nil))) (qe_one (q_cmp (c_eq rfl hr) (qe_typ call_list_of (ok_list rfl) (by rfl) T.b_list (by decide +kernel) (qa_cons (qe_loc 0) (qa_nil))) (qe_sortSet rfl rfl (by rfl) T.b_sorted (by rfl) T.b_set (qe_loc 0))))))
abbrev s__is_group : Stmt := top 18
def F__is_group : List W → Sto → Res W := defn 2 (sRet (eAnd (eCall (F__is_ascending) [] (evCons (eLoc 1) (evCons (eProp 0 F_Race_runners (eLoc 0)) (evNil)))) (eCall (F__may_come_level) [] (evCons (eB fLen (evCons (eLoc 1) (evNil))) (evCons (eProp 0 F_Race_ties (eLoc 0)) (evNil))))))
theorem sc__is_group : FnScope ["race", "group"] ["race", "group"] (defScope s__is_group) := ⟨rfl, rfl, rfl, by decide +kernel, rfl, by decide +kernel, by decide +kernel⟩
theorem ok__is_group {f : Addr} {fd : FuncData} (F : L2.Fun K "_is_group" "_is_group" s__is_group f fd) (T : TX K mg cl ec fld) (G__is_ascending : Fn ⟨K, cl, ec, fld⟩ P w mg base 4 "_is_ascending" 2 [] F__is_ascending) (G__may_come_level : Fn ⟨K, cl, ec, fld⟩ P w mg base 1 "_may_come_level" 2 [] F__may_come_level) (G_Race_runners : FnP ⟨K, cl, ec, fld⟩ P w mg base 1 "runners" 0 F_Race_runners) (G_Race_ties : FnP ⟨K, cl, ec, fld⟩ P w mg base 1 "ties" 0 F_Race_ties) : FnOk P w K mg base (L2.CX P w) 5 f fd ["race", "group"] (spF ⟨K, cl, ec, fld⟩ 2 F__is_group) := by
  refine q_ok F sc__is_group rfl rfl fun cdv A outer s H E hr => ?_
  have TK := takes_of (X := cxOf (L2.CX P w) P w K mg base ["race", "group"] "_is_group" (defScope s__is_group) f cdv A outer s H E) rfl rfl rfl rfl
  exact qs_one (qs_ret (qe_and (qe_call1 G__is_ascending rfl (hr.mono (by first | exact Nat.le_refl _ | omega)) TK (by rfl) (qa_cons (qe_loc 1) (qa_cons (q_prop G_Race_runners rfl T.c_Race.cl (hr.mono (by first | exact Nat.le_refl _ | omega)) (qe_loc 0)) (qa_nil))) 2 rfl (evLen_cons (evLen_cons evLen_nil))) (qe_one (qe_call1 G__may_come_level rfl (hr.mono (by first | exact Nat.le_refl _ | omega)) TK (by rfl) (qa_cons (qe_blt call_len (ok_len rfl) (by rfl) T.b_len (by decide +kernel) (qa_cons (qe_loc 1) (qa_nil))) (qa_cons (q_prop G_Race_ties rfl T.c_Race.cl (hr.mono (by first | exact Nat.le_refl _ | omega)) (qe_loc 0)) (qa_nil))) 2 rfl (evLen_cons (evLen_cons evLen_nil))))))
abbrev s_is_outcome : Stmt := top 13
def F_is_outcome : List W → Sto → Res W := defn 5 (sSeq (sDrop (eCall (F_need_race) [] (evCons (eLoc 0) (evCons (eLit (.int 1)) (evNil))))) (sSeq (sIf (bOr (bNot (bTru (eCall (F_is_sequence) [] (evCons (eLoc 1) (evNil))))) (bVal (eBin wEq (eB fLen (evCons (eLoc 1) (evNil))) (eLit (.int 0))))) (sRet (eLit (.bl false))) (sNil)) (sSeq (sIf (bNot (bTru (eB fAll (evCons (eComp 1000000 [3] (vSeq (eLoc 1)) (tgName 3) (bYes) (eCall (F__is_group) [] (evCons (eLoc 0) (evCons (eLoc 3) (evNil))))) (evNil))))) (sRet (eLit (.bl false))) (sNil)) (sSeq (sSet (tgName 2) (eCall (F_running_in) [] (evCons (eLoc 1) (evNil)))) (sSeq (sIf (bVal (eBin wNe (eU fLenSet (eLoc 2)) (eB fLen (evCons (eLoc 2) (evNil))))) (sRet (eLit (.bl false))) (sNil)) (sRet (eB fAll (evCons (eComp 1000000 [4] (vRng1 (evCons (eProp 0 F_Race_runners (eLoc 0)) (evNil))) (tgName 4) (bYes) (eOr (eBin wIn (eLoc 4) (eLoc 2)) (eBin wIn (eLoc 4) (eProp 0 F_Race_absent (eLoc 0))))) (evNil)))))))))
theorem sc_is_outcome : FnScope ["race", "value", "running", "group", "runner"] ["race", "value"] (defScope s_is_outcome) := ⟨rfl, rfl, rfl, by decide +kernel, rfl, by decide +kernel, by decide +kernel⟩
theorem ok_is_outcome {f : Addr} {fd : FuncData} (F : L2.Fun K "is_outcome" "is_outcome" s_is_outcome f fd) (T : TX K mg cl ec fld) (G_need_race : Fn ⟨K, cl, ec, fld⟩ P w mg base 2 "need_race" 2 [] F_need_race) (G_running_in : Fn ⟨K, cl, ec, fld⟩ P w mg base 1 "running_in" 1 [] F_running_in) (G_is_sequence : Fn ⟨K, cl, ec, fld⟩ P w mg base 1 "is_sequence" 1 [] F_is_sequence) (G__is_group : Fn ⟨K, cl, ec, fld⟩ P w mg base 5 "_is_group" 2 [] F__is_group) (G_Race_absent : FnP ⟨K, cl, ec, fld⟩ P w mg base 1 "absent" 0 F_Race_absent) (G_Race_runners : FnP ⟨K, cl, ec, fld⟩ P w mg base 1 "runners" 0 F_Race_runners) : FnOk P w K mg base (L2.CX P w) 6 f fd ["race", "value"] (spF ⟨K, cl, ec, fld⟩ 2 F_is_outcome) := by
  refine q_ok F sc_is_outcome rfl rfl fun cdv A outer s H E hr => ?_
  have TK := takes_of (X := cxOf (L2.CX P w) P w K mg base ["race", "value", "running", "group", "runner"] "is_outcome" (defScope s_is_outcome) f cdv A outer s H E) rfl rfl rfl rfl
  exact qs_cons (qs_drop (qe_call1 G_need_race rfl (hr.mono (by first | exact Nat.le_refl _ | omega)) TK (by rfl) (qa_cons (qe_loc 0) (qa_cons (qe_int) (qa_nil))) 2 rfl (evLen_cons (evLen_cons evLen_nil)))) (qs_cons (qs_if (qw_pt (qw_or (qt_not (qt_tru rfl (qe_call1 G_is_sequence rfl (hr.mono (by first | exact Nat.le_refl _ | omega)) TK (by rfl) (qa_cons (qe_loc 1) (qa_nil)) 1 rfl (evLen_cons evLen_nil)))) (qw_or1 (t_cmp (c_eq rfl hr) (qe_blt call_len (ok_len rfl) (by rfl) T.b_len (by decide +kernel) (qa_cons (qe_loc 1) (qa_nil))) (qe_int))))) (qs_one (qs_ret (qe_bl))) (qs_nil)) (qs_cons (qs_if (qt_not (qt_tru rfl (qe_blt (cr_all rfl) (ok_all rfl) (by rfl) T.b_all (by decide +kernel) (qa_cons (qe_comp (own := [("group", 3)]) (n := 1000000) rfl (sc_is_outcome).nd (qi_seq rfl (qe_loc 1)) (by change BlkOk ["race", "value", "running", "group", "runner"] (defScope s_is_outcome) _ _; exact blkOk_by (by decide +kernel)) (fun _ _ _ _ _ => pg_name (i := 3) (sc_is_outcome).nd rfl (by first | exact Or.inl rfl | exact Or.inr rfl)) (ct_name (by decide)) (fun _ _ _ _ _ => qc_nil) (fun _ _ _ _ _ => qe_call1 G__is_group rfl (hr.mono (by first | exact Nat.le_refl _ | omega)) (takesX (CX := L2.CX P w)) (by rfl) (qa_cons (qe_loc 0) (qa_cons (qe_loc 3) (qa_nil))) 2 rfl (evLen_cons (evLen_cons evLen_nil)))) (qa_nil))))) (qs_one (qs_ret (qe_bl))) (qs_nil)) (qs_cons (qs_set (qe_call1 G_running_in rfl (hr.mono (by first | exact Nat.le_refl _ | omega)) TK (by rfl) (qa_cons (qe_loc 1) (qa_nil)) 1 rfl (evLen_cons evLen_nil)) (qg_name (i := 2) (sc_is_outcome).nd rfl (by first | exact Or.inl rfl | exact Or.inr rfl))) (qs_cons (qs_if (t_cmp (c_ne rfl hr) (qe_lenSet rfl rfl (by rfl) T.b_len (by rfl) T.b_set (qe_loc 2)) (qe_blt call_len (ok_len rfl) (by rfl) T.b_len (by decide +kernel) (qa_cons (qe_loc 2) (qa_nil)))) (qs_one (qs_ret (qe_bl))) (qs_nil)) (qs_one (qs_ret (qe_blt (cr_all rfl) (ok_all rfl) (by rfl) T.b_all (by decide +kernel) (qa_cons (qe_comp (own := [("runner", 4)]) (n := 1000000) rfl (sc_is_outcome).nd (qi_rng1 (by rfl) T.b_range (qa_cons (q_prop G_Race_runners rfl T.c_Race.cl (hr.mono (by first | exact Nat.le_refl _ | omega)) (qe_loc 0)) (qa_nil))) (by change BlkOk ["race", "value", "running", "group", "runner"] (defScope s_is_outcome) _ _; exact blkOk_by (by decide +kernel)) (fun _ _ _ _ _ => pg_name (i := 4) (sc_is_outcome).nd rfl (by first | exact Or.inl rfl | exact Or.inr rfl)) (ct_name (by decide)) (fun _ _ _ _ _ => qc_nil) (fun _ _ _ _ _ => qe_or (q_cmp (c_in rfl hr) (qe_loc 4) (qe_loc 2)) (qe_one (q_cmp (c_in rfl hr) (qe_loc 4) (q_prop G_Race_absent rfl T.c_Race.cl (hr.mono (by first | exact Nat.le_refl _ | omega)) (qe_loc 0)))))) (qa_nil)))))))))
abbrev s__are_cuts : Stmt := top 17
def F__are_cuts : List W → Sto → Res W := defn 3 (sSeq (sIf (bOr (bNot (bTru (eCall (F_is_sequence) [] (evCons (eLoc 0) (evNil))))) (bVal (eBin wNotIn (eB fLen (evCons (eLoc 0) (evNil))) (eTup (evCons (eLit (.int 0)) (evCons (eLoc 1) (evNil))))))) (sRet (eLit (.bl false))) (sNil)) (sRet (eB fAll (evCons (eComp 1000000 [2] (vSeq (eLoc 0)) (tgName 2) (bYes) (eCall (F_is_integer_within) [] (evCons (eLoc 2) (evCons (eLit (.int 0)) (evCons (eLit (.int 90)) (evNil)))))) (evNil)))))
theorem sc__are_cuts : FnScope ["value", "runners", "cut"] ["value", "runners"] (defScope s__are_cuts) := ⟨rfl, rfl, rfl, by decide +kernel, rfl, by decide +kernel, by decide +kernel⟩
theorem ok__are_cuts {f : Addr} {fd : FuncData} (F : L2.Fun K "_are_cuts" "_are_cuts" s__are_cuts f fd) (T : TX K mg cl ec fld) (G_is_sequence : Fn ⟨K, cl, ec, fld⟩ P w mg base 1 "is_sequence" 1 [] F_is_sequence) (G_is_integer_within : Fn ⟨K, cl, ec, fld⟩ P w mg base 2 "is_integer_within" 3 [] F_is_integer_within) : FnOk P w K mg base (L2.CX P w) 3 f fd ["value", "runners"] (spF ⟨K, cl, ec, fld⟩ 2 F__are_cuts) := by
  refine q_ok F sc__are_cuts rfl rfl fun cdv A outer s H E hr => ?_
  have TK := takes_of (X := cxOf (L2.CX P w) P w K mg base ["value", "runners", "cut"] "_are_cuts" (defScope s__are_cuts) f cdv A outer s H E) rfl rfl rfl rfl
  exact qs_cons (qs_if (qw_pt (qw_or (qt_not (qt_tru rfl (qe_call1 G_is_sequence rfl (hr.mono (by first | exact Nat.le_refl _ | omega)) TK (by rfl) (qa_cons (qe_loc 0) (qa_nil)) 1 rfl (evLen_cons evLen_nil)))) (qw_or1 (t_cmp (c_notIn rfl hr) (qe_blt call_len (ok_len rfl) (by rfl) T.b_len (by decide +kernel) (qa_cons (qe_loc 0) (qa_nil))) (qe_tup (qa_cons (qe_int) (qa_cons (qe_loc 1) (qa_nil)))))))) (qs_one (qs_ret (qe_bl))) (qs_nil)) (qs_one (qs_ret (qe_blt (cr_all rfl) (ok_all rfl) (by rfl) T.b_all (by decide +kernel) (qa_cons (qe_comp (own := [("cut", 2)]) (n := 1000000) rfl (sc__are_cuts).nd (qi_seq rfl (qe_loc 0)) (by change BlkOk ["value", "runners", "cut"] (defScope s__are_cuts) _ _; exact blkOk_by (by decide +kernel)) (fun _ _ _ _ _ => pg_name (i := 2) (sc__are_cuts).nd rfl (by first | exact Or.inl rfl | exact Or.inr rfl)) (ct_name (by decide)) (fun _ _ _ _ _ => qc_nil) (fun _ _ _ _ _ => qe_call1 G_is_integer_within rfl (hr.mono (by first | exact Nat.le_refl _ | omega)) (takesX (CX := L2.CX P w)) (by rfl) (qa_cons (qe_loc 2) (qa_cons (qe_int) (qa_cons (q_gint (by rfl) T.k_MOST_CUT) (qa_nil)))) 3 rfl (evLen_cons (evLen_cons (evLen_cons evLen_nil))))) (qa_nil)))))
abbrev s__law_so : Stmt := top 24
def F__law_so : Nat → List W → Sto → Res W
  | 0 => fun _ _ => .err
  | d + 1 => defn 3 (sSeq (sIf (bVal (eBin wIsN (eLoc 1) (eLit .non))) (sRet (eBin wIsN (eLoc 0) (eLit .non))) (sNil)) (sSeq (sIf (bTru (eIsi ans_tuple (eLoc 1))) (sSeq (sIf (bOr (bNot (bTru (eIsi ans_tuple (eLoc 0)))) (bVal (eBin wNe (eB fLen (evCons (eLoc 0) (evNil))) (eB fLen (evCons (eLoc 1) (evNil)))))) (sRet (eLit (.bl false))) (sNil)) (sSeq (sFor 1000000 (vRng1 (evCons (eB fLen (evCons (eLoc 1) (evNil))) (evNil))) (tgName 2) (sIf (bNot (bTru (eCall (F__law_so d) [] (evCons (eBin wIx (eLoc 0) (eLoc 2)) (evCons (eBin wIx (eLoc 1) (eLoc 2)) (evNil)))))) (sRet (eLit (.bl false))) (sNil))) (sRet (eLit (.bl true))))) (sNil)) (sSeq (sIf (bOr (bTru (eIsi ans_bool (eLoc 1))) (bTru (eIsi ans_bool (eLoc 0)))) (sRet (eAnd (eIsi ans_bool (eLoc 1)) (eAnd (eIsi ans_bool (eLoc 0)) (eBin wEq (eLoc 0) (eLoc 1))))) (sNil)) (sSeq (sIf (bTru (eIsi ans_int (eLoc 1))) (sRet (eAnd (eIsi ans_int (eLoc 0)) (eBin wEq (eLoc 0) (eLoc 1)))) (sNil)) (sRet (eAnd (eIsi ans_str (eLoc 1)) (eAnd (eIsi ans_str (eLoc 0)) (eBin wEq (eLoc 0) (eLoc 1)))))))))
theorem sc__law_so : FnScope ["found", "meant", "k"] ["found", "meant"] (defScope s__law_so) := ⟨rfl, rfl, rfl, by decide +kernel, rfl, by decide +kernel, by decide +kernel⟩
theorem ok__law_so {f : Addr} {fd : FuncData} (F : L2.Fun K "_law_so" "_law_so" s__law_so f fd) (T : TX K mg cl ec fld) {d : Nat} (G_self : Fn ⟨K, cl, ec, fld⟩ P w mg base (0 + d) "_law_so" 2 [] (F__law_so d)) : FnOk P w K mg base (L2.CX P w) (0 + d + 1) f fd ["found", "meant"] (spF ⟨K, cl, ec, fld⟩ 2 (F__law_so (d + 1))) := by
  refine q_ok F sc__law_so rfl rfl fun cdv A outer s H E hr => ?_
  have TK := takes_of (X := cxOf (L2.CX P w) P w K mg base ["found", "meant", "k"] "_law_so" (defScope s__law_so) f cdv A outer s H E) rfl rfl rfl rfl
  exact qs_cons (qs_if (t_cmp c_is (qe_loc 1) (qe_non)) (qs_one (qs_ret (q_cmp c_is (qe_loc 0) (qe_non)))) (qs_nil)) (qs_cons (qs_if (qt_tru rfl (qe_isi1 (T := .tup) T.ai_tuple rfl (by rfl) T.b_isinstance (qe_loc 1) (pe_bltn (v := .ty "tuple") (by rfl) T.b_tuple (by decide +kernel) rfl) (.ty _) T.an_tuple)) (qs_cons (qs_if (qw_pt (qw_or (qt_not (qt_tru rfl (qe_isi1 (T := .tup) T.ai_tuple rfl (by rfl) T.b_isinstance (qe_loc 0) (pe_bltn (v := .ty "tuple") (by rfl) T.b_tuple (by decide +kernel) rfl) (.ty _) T.an_tuple))) (qw_or1 (t_cmp (c_ne rfl hr) (qe_blt call_len (ok_len rfl) (by rfl) T.b_len (by decide +kernel) (qa_cons (qe_loc 0) (qa_nil))) (qe_blt call_len (ok_len rfl) (by rfl) T.b_len (by decide +kernel) (qa_cons (qe_loc 1) (qa_nil))))))) (qs_one (qs_ret (qe_bl))) (qs_nil)) (qs_cons (qs_for (n := 1000000) (passes_of (K := _) rfl) rfl (qi_rng1 (by rfl) T.b_range (qa_cons (qe_blt call_len (ok_len rfl) (by rfl) T.b_len (by decide +kernel) (qa_cons (qe_loc 1) (qa_nil))) (qa_nil))) (qg_name (i := 2) (sc__law_so).nd rfl (by first | exact Or.inl rfl | exact Or.inr rfl)) (qs_one (qs_if (qt_not (qt_tru rfl (qe_call1 G_self rfl (hr.mono (by omega)) TK (by rfl) (qa_cons (qe_ix rfl (qe_loc 0) (qe_loc 2)) (qa_cons (qe_ix rfl (qe_loc 1) (qe_loc 2)) (qa_nil))) 2 rfl (evLen_cons (evLen_cons evLen_nil))))) (qs_one (qs_ret (qe_bl))) (qs_nil)))) (qs_one (qs_ret (qe_bl))))) (qs_nil)) (qs_cons (qs_if (qw_pt (qw_or (qt_tru rfl (qe_isi1 (T := .bl) T.ai_bool rfl (by rfl) T.b_isinstance (qe_loc 1) (pe_bltn (v := .ty "bool") (by rfl) T.b_bool (by decide +kernel) rfl) (.ty _) T.an_bool)) (qw_or1 (qt_tru rfl (qe_isi1 (T := .bl) T.ai_bool rfl (by rfl) T.b_isinstance (qe_loc 0) (pe_bltn (v := .ty "bool") (by rfl) T.b_bool (by decide +kernel) rfl) (.ty _) T.an_bool))))) (qs_one (qs_ret (qe_and (qe_isi1 (T := .bl) T.ai_bool rfl (by rfl) T.b_isinstance (qe_loc 1) (pe_bltn (v := .ty "bool") (by rfl) T.b_bool (by decide +kernel) rfl) (.ty _) T.an_bool) (qe_and (qe_isi1 (T := .bl) T.ai_bool rfl (by rfl) T.b_isinstance (qe_loc 0) (pe_bltn (v := .ty "bool") (by rfl) T.b_bool (by decide +kernel) rfl) (.ty _) T.an_bool) (qe_one (q_cmp (c_eq rfl hr) (qe_loc 0) (qe_loc 1))))))) (qs_nil)) (qs_cons (qs_if (qt_tru rfl (qe_isi1 (T := .int) T.ai_int rfl (by rfl) T.b_isinstance (qe_loc 1) (pe_bltn (v := .ty "int") (by rfl) T.b_int (by decide +kernel) rfl) (.ty _) T.an_int)) (qs_one (qs_ret (qe_and (qe_isi1 (T := .int) T.ai_int rfl (by rfl) T.b_isinstance (qe_loc 0) (pe_bltn (v := .ty "int") (by rfl) T.b_int (by decide +kernel) rfl) (.ty _) T.an_int) (qe_one (q_cmp (c_eq rfl hr) (qe_loc 0) (qe_loc 1)))))) (qs_nil)) (qs_one (qs_ret (qe_and (qe_isi1 (T := .str) T.ai_str rfl (by rfl) T.b_isinstance (qe_loc 1) (pe_bltn (v := .ty "str") (by rfl) T.b_str (by decide +kernel) rfl) (.ty _) T.an_str) (qe_and (qe_isi1 (T := .str) T.ai_str rfl (by rfl) T.b_isinstance (qe_loc 0) (pe_bltn (v := .ty "str") (by rfl) T.b_str (by decide +kernel) rfl) (.ty _) T.an_str) (qe_one (q_cmp (c_eq rfl hr) (qe_loc 0) (qe_loc 1))))))))))
abbrev s__law_numbers : Stmt := top 25
def F__law_numbers : List W → Sto → Res W := defn 6 (sSeq (sSet (tgName 1) (eLst (evNil))) (sSeq (sFor 1000000 (vSeq (eSl (eLoc 0) (poNone) (poSome (eLit (.int 63))))) (tgName 2) (sIf (bVal (eBin wGe (eLoc 2) (eBin wPow (eLit (.int 10)) (eLit (.int 18))))) (sSeq (sSet (tgName 3) (eLoc 2)) (sFor 1000000 (vRng1 (evCons (eLit (.int 60)) (evNil))) (tgName 4) (sSeq (sIf (bVal (eBin wEq (eLoc 3) (eLit (.int 0)))) (sBreak) (sNil)) (sSeq (sDrop (eMt fAppend (eLoc 1) (evCons (eBin wMod (eB fInt (evCons (eLoc 3) (evNil))) (eLit (.int 997))) (evNil)))) (sSet (tgName 3) (eBin wDiv (eLoc 3) (eLit (.int 997)))))))) (sFor 1000000 (vRng1 (evCons (eLit (.int 4)) (evNil))) (tgName 4) (sSeq (sSet (tgName 5) (eBin wMod (eB fInt (evCons (eBin wAdd (eBin wAdd (eBin wMul (eLoc 2) (eLit (.int 48271))) (eBin wMul (eLoc 4) (eLit (.int 69621)))) (eLit (.int 11))) (evNil))) (eLit (.int 2147483647)))) (sDrop (eMt fAppend (eLoc 1) (evCons (eBin wMod (eB fInt (evCons (eBin wAdd (eBin wMul (eLoc 5) (eLit (.int 16807))) (eLoc 4)) (evNil))) (eLit (.int 2147483629))) (evNil)))))))) (sSeq (sIf (bVal (eBin wEq (eB fLen (evCons (eLoc 1) (evNil))) (eLit (.int 0)))) (sDrop (eMt fAppend (eLoc 1) (evCons (eLit (.int 0)) (evNil)))) (sNil)) (sRet (eLoc 1)))))
theorem sc__law_numbers : FnScope ["script", "row", "cell", "left", "k", "mixed"] ["script"] (defScope s__law_numbers) := ⟨rfl, rfl, rfl, by decide +kernel, rfl, by decide +kernel, by decide +kernel⟩
theorem ok__law_numbers {f : Addr} {fd : FuncData} (F : L2.Fun K "_law_numbers" "_law_numbers" s__law_numbers f fd) (T : TX K mg cl ec fld) : FnOk P w K mg base (L2.CX P w) 1 f fd ["script"] (spF ⟨K, cl, ec, fld⟩ 1 F__law_numbers) := by
  refine q_ok F sc__law_numbers rfl rfl fun cdv A outer s H E hr => ?_
  have TK := takes_of (X := cxOf (L2.CX P w) P w K mg base ["script", "row", "cell", "left", "k", "mixed"] "_law_numbers" (defScope s__law_numbers) f cdv A outer s H E) rfl rfl rfl rfl
  exact qs_cons (qs_set (qe_lst (qa_nil)) (qg_name (i := 1) (sc__law_numbers).nd rfl (by first | exact Or.inl rfl | exact Or.inr rfl))) (qs_cons (qs_for (n := 1000000) (passes_of (K := _) rfl) rfl (qi_seq rfl (qe_sl rfl (qe_loc 0) (qo_none) (qo_some (qe_int)))) (qg_name (i := 2) (sc__law_numbers).nd rfl (by first | exact Or.inl rfl | exact Or.inr rfl)) (qs_one (qs_if (t_cmp c_ge (qe_loc 2) (q_pow (qe_int) (qe_int))) (qs_cons (qs_set (qe_loc 2) (qg_name (i := 3) (sc__law_numbers).nd rfl (by first | exact Or.inl rfl | exact Or.inr rfl))) (qs_one (qs_for (n := 1000000) (passes_of (K := _) rfl) rfl (qi_rng1 (by rfl) T.b_range (qa_cons (qe_int) (qa_nil))) (qg_name (i := 4) (sc__law_numbers).nd rfl (by first | exact Or.inl rfl | exact Or.inr rfl)) (qs_cons (qs_if (t_cmp (c_eq rfl hr) (qe_loc 3) (qe_int)) (qs_one (qs_break)) (qs_nil)) (qs_cons (qs_drop (qe_mt rfl PySem.F.slot_list_append PySem.F.type_list_append mt_append mok_append (qe_loc 1) (qa_cons (q_mod (qe_typ call_int1 ok_fint (by rfl) T.b_int (by decide +kernel) (qa_cons (qe_loc 3) (qa_nil))) (qe_int)) (qa_nil)))) (qs_one (qs_set (q_div (qe_loc 3) (qe_int)) (qg_name (i := 3) (sc__law_numbers).nd rfl (by first | exact Or.inl rfl | exact Or.inr rfl))))))))) (qs_one (qs_for (n := 1000000) (passes_of (K := _) rfl) rfl (qi_rng1 (by rfl) T.b_range (qa_cons (qe_int) (qa_nil))) (qg_name (i := 4) (sc__law_numbers).nd rfl (by first | exact Or.inl rfl | exact Or.inr rfl)) (qs_cons (qs_set (q_mod (qe_typ call_int1 ok_fint (by rfl) T.b_int (by decide +kernel) (qa_cons (q_add rfl (q_add rfl (q_mul rfl (qe_loc 2) (qe_int)) (q_mul rfl (qe_loc 4) (qe_int))) (qe_int)) (qa_nil))) (qe_int)) (qg_name (i := 5) (sc__law_numbers).nd rfl (by first | exact Or.inl rfl | exact Or.inr rfl))) (qs_one (qs_drop (qe_mt rfl PySem.F.slot_list_append PySem.F.type_list_append mt_append mok_append (qe_loc 1) (qa_cons (q_mod (qe_typ call_int1 ok_fint (by rfl) T.b_int (by decide +kernel) (qa_cons (q_add rfl (q_mul rfl (qe_loc 5) (qe_int)) (qe_loc 4)) (qa_nil))) (qe_int)) (qa_nil))))))))))) (qs_cons (qs_if (t_cmp (c_eq rfl hr) (qe_blt call_len (ok_len rfl) (by rfl) T.b_len (by decide +kernel) (qa_cons (qe_loc 1) (qa_nil))) (qe_int)) (qs_one (qs_drop (qe_mt rfl PySem.F.slot_list_append PySem.F.type_list_append mt_append mok_append (qe_loc 1) (qa_cons (qe_int) (qa_nil))))) (qs_nil)) (qs_one (qs_ret (qe_loc 1)))))
abbrev s__law_draw : Stmt := top 26
def F__law_draw : List W → Sto → Res W := defn 4 (sSeq (sIf (bVal (eBin wLt (eLoc 1) (eB fLen (evCons (eLoc 0) (evNil))))) (sRet (eBin wMod (eB fInt (evCons (eBin wIx (eLoc 0) (eLoc 1)) (evNil))) (eLoc 2))) (sNil)) (sSeq (sSet (tgName 3) (eBin wMod (eB fInt (evCons (eBin wAdd (eBin wAdd (eBin wMul (eBin wIx (eLoc 0) (eBin wMod (eB fInt (evCons (eLoc 1) (evNil))) (eB fLen (evCons (eLoc 0) (evNil))))) (eLit (.int 40692))) (eBin wMul (eLoc 1) (eLit (.int 7919)))) (eLit (.int 3))) (evNil))) (eLit (.int 2147483399)))) (sRet (eBin wMod (eB fInt (evCons (eBin wMod (eB fInt (evCons (eBin wAdd (eBin wMul (eLoc 3) (eLit (.int 48271))) (eLoc 1)) (evNil))) (eLit (.int 2147483647))) (evNil))) (eLoc 2)))))
theorem sc__law_draw : FnScope ["row", "at", "limit", "mixed"] ["row", "at", "limit"] (defScope s__law_draw) := ⟨rfl, rfl, rfl, by decide +kernel, rfl, by decide +kernel, by decide +kernel⟩
theorem ok__law_draw {f : Addr} {fd : FuncData} (F : L2.Fun K "_law_draw" "_law_draw" s__law_draw f fd) (T : TX K mg cl ec fld) : FnOk P w K mg base (L2.CX P w) 1 f fd ["row", "at", "limit"] (spF ⟨K, cl, ec, fld⟩ 3 F__law_draw) := by
  refine q_ok F sc__law_draw rfl rfl fun cdv A outer s H E hr => ?_
  have TK := takes_of (X := cxOf (L2.CX P w) P w K mg base ["row", "at", "limit", "mixed"] "_law_draw" (defScope s__law_draw) f cdv A outer s H E) rfl rfl rfl rfl
  exact qs_cons (qs_if (t_cmp c_lt (qe_loc 1) (qe_blt call_len (ok_len rfl) (by rfl) T.b_len (by decide +kernel) (qa_cons (qe_loc 0) (qa_nil)))) (qs_one (qs_ret (q_mod (qe_typ call_int1 ok_fint (by rfl) T.b_int (by decide +kernel) (qa_cons (qe_ix rfl (qe_loc 0) (qe_loc 1)) (qa_nil))) (qe_loc 2)))) (qs_nil)) (qs_cons (qs_set (q_mod (qe_typ call_int1 ok_fint (by rfl) T.b_int (by decide +kernel) (qa_cons (q_add rfl (q_add rfl (q_mul rfl (qe_ix rfl (qe_loc 0) (q_mod (qe_typ call_int1 ok_fint (by rfl) T.b_int (by decide +kernel) (qa_cons (qe_loc 1) (qa_nil))) (qe_blt call_len (ok_len rfl) (by rfl) T.b_len (by decide +kernel) (qa_cons (qe_loc 0) (qa_nil))))) (qe_int)) (q_mul rfl (qe_loc 1) (qe_int))) (qe_int)) (qa_nil))) (qe_int)) (qg_name (i := 3) (sc__law_draw).nd rfl (by first | exact Or.inl rfl | exact Or.inr rfl))) (qs_one (qs_ret (q_mod (qe_typ call_int1 ok_fint (by rfl) T.b_int (by decide +kernel) (qa_cons (q_mod (qe_typ call_int1 ok_fint (by rfl) T.b_int (by decide +kernel) (qa_cons (q_add rfl (q_mul rfl (qe_loc 3) (qe_int)) (qe_loc 1)) (qa_nil))) (qe_int)) (qa_nil))) (qe_loc 2)))))
abbrev s__law_take : Stmt := top 27
def F__law_take : List W → Sto → Res W := defn 3 (sSeq (sIxW (eLoc 1) (eLit (.int 0)) (eBin wAdd (eBin wIx (eLoc 1) (eLit (.int 0))) (eLit (.int 1)))) (sRet (eCall (F__law_draw) [] (evCons (eLoc 0) (evCons (eBin wSub (eBin wIx (eLoc 1) (eLit (.int 0))) (eLit (.int 1))) (evCons (eLoc 2) (evNil)))))))
theorem sc__law_take : FnScope ["row", "spot", "limit"] ["row", "spot", "limit"] (defScope s__law_take) := ⟨rfl, rfl, rfl, by decide +kernel, rfl, by decide +kernel, by decide +kernel⟩
theorem ok__law_take {f : Addr} {fd : FuncData} (F : L2.Fun K "_law_take" "_law_take" s__law_take f fd) (T : TX K mg cl ec fld) (G__law_draw : Fn ⟨K, cl, ec, fld⟩ P w mg base 1 "_law_draw" 3 [] F__law_draw) : FnOk P w K mg base (L2.CX P w) 2 f fd ["row", "spot", "limit"] (spF ⟨K, cl, ec, fld⟩ 3 F__law_take) := by
  refine q_ok F sc__law_take rfl rfl fun cdv A outer s H E hr => ?_
  have TK := takes_of (X := cxOf (L2.CX P w) P w K mg base ["row", "spot", "limit"] "_law_take" (defScope s__law_take) f cdv A outer s H E) rfl rfl rfl rfl
  exact qs_cons (qs_ixw (q_add rfl (qe_ix rfl (qe_loc 1) (qe_int)) (qe_int)) (qe_loc 1) (qe_int)) (qs_one (qs_ret (qe_call1 G__law_draw rfl (hr.mono (by first | exact Nat.le_refl _ | omega)) TK (by rfl) (qa_cons (qe_loc 0) (qa_cons (q_sub (qe_ix rfl (qe_loc 1) (qe_int)) (qe_int)) (qa_cons (qe_loc 2) (qa_nil)))) 3 rfl (evLen_cons (evLen_cons (evLen_cons evLen_nil))))))
abbrev s__law_loose : Stmt := top 28
def F__law_loose : Nat → List W → Sto → Res W
  | 0 => fun _ _ => .err
  | d + 1 => defn 4 (sSeq (sIf (bTru (eIsi ans_tuple (eLoc 0))) (sSeq (sSet (tgName 2) (eComp 1000000 [3] (vSeq (eLoc 0)) (tgName 3) (bYes) (eCall (F__law_loose d) [] (evCons (eLoc 3) (evCons (eBin wAdd (eLoc 1) (eLit (.int 1))) (evNil)))))) (sRet (eIf (bVal (eBin wEq (eBin wMod (eB fInt (evCons (eLoc 1) (evNil))) (eLit (.int 2))) (eLit (.int 0)))) (eLoc 2) (eB fTuple (evCons (eLoc 2) (evNil)))))) (sNil)) (sRet (eLoc 0)))
theorem sc__law_loose : FnScope ["value", "turn", "made", "one"] ["value", "turn"] (defScope s__law_loose) := ⟨rfl, rfl, rfl, by decide +kernel, rfl, by decide +kernel, by decide +kernel⟩
theorem ok__law_loose {f : Addr} {fd : FuncData} (F : L2.Fun K "_law_loose" "_law_loose" s__law_loose f fd) (T : TX K mg cl ec fld) {d : Nat} (G_self : Fn ⟨K, cl, ec, fld⟩ P w mg base (0 + d) "_law_loose" 2 [] (F__law_loose d)) : FnOk P w K mg base (L2.CX P w) (0 + d + 1) f fd ["value", "turn"] (spF ⟨K, cl, ec, fld⟩ 2 (F__law_loose (d + 1))) := by
  refine q_ok F sc__law_loose rfl rfl fun cdv A outer s H E hr => ?_
  have TK := takes_of (X := cxOf (L2.CX P w) P w K mg base ["value", "turn", "made", "one"] "_law_loose" (defScope s__law_loose) f cdv A outer s H E) rfl rfl rfl rfl
  exact qs_cons (qs_if (qt_tru rfl (qe_isi1 (T := .tup) T.ai_tuple rfl (by rfl) T.b_isinstance (qe_loc 0) (pe_bltn (v := .ty "tuple") (by rfl) T.b_tuple (by decide +kernel) rfl) (.ty _) T.an_tuple)) (qs_cons (qs_comp (own := [("one", 3)]) (n := 1000000) (i := 2) rfl (sc__law_loose).nd rfl rfl rfl (qi_seq rfl (qe_loc 0)) (by change BlkOk ["value", "turn", "made", "one"] (defScope s__law_loose) _ _; exact blkOk_by (by decide +kernel)) (fun _ _ _ _ _ => pg_name (i := 3) (sc__law_loose).nd rfl (by first | exact Or.inl rfl | exact Or.inr rfl)) (ct_name (by decide)) (fun _ _ _ _ _ => qc_nil) (fun _ _ _ _ _ => qe_call1 G_self rfl (hr.mono (by omega)) (takesX (CX := L2.CX P w)) (by rfl) (qa_cons (qe_loc 3) (qa_cons (q_add rfl (qe_loc 1) (qe_int)) (qa_nil))) 2 rfl (evLen_cons (evLen_cons evLen_nil)))) (qs_one (qs_ret (qe_if (t_cmp (c_eq rfl hr) (q_mod (qe_typ call_int1 ok_fint (by rfl) T.b_int (by decide +kernel) (qa_cons (qe_loc 1) (qa_nil))) (qe_int)) (qe_int)) (qe_loc 2) (qe_typ call_tuple_of (ok_tuple rfl) (by rfl) T.b_tuple (by decide +kernel) (qa_cons (qe_loc 2) (qa_nil))))))) (qs_nil)) (qs_one (qs_ret (qe_loc 0)))
abbrev s__law_race : Stmt := top 29
def F__law_race : List W → Sto → Res W := defn 8 (sSeq (sSet (tgName 3) (eBin wAdd (eLit (.int 1)) (eCall (F__law_take) [] (evCons (eLoc 0) (evCons (eLoc 1) (evCons (eLoc 2) (evNil))))))) (sSeq (sSet (tgName 4) (eBin wEq (eCall (F__law_take) [] (evCons (eLoc 0) (evCons (eLoc 1) (evCons (eLit (.int 2)) (evNil))))) (eLit (.int 0)))) (sSeq (sSet (tgName 5) (eIf (bVal (eBin wEq (eCall (F__law_take) [] (evCons (eLoc 0) (evCons (eLoc 1) (evCons (eLit (.int 2)) (evNil))))) (eLit (.int 0)))) (eB fTuple (evCons (eComp 1000000 [7] (vRng1 (evCons (eLoc 3) (evNil))) (tgName 7) (bVal (eBin wEq (eCall (F__law_take) [] (evCons (eLoc 0) (evCons (eLoc 1) (evCons (eLit (.int 4)) (evNil))))) (eLit (.int 0)))) (eLoc 7)) (evNil))) (eTup (evNil)))) (sSeq (sSet (tgName 6) (eTup (evNil))) (sSeq (sIf (bVal (eBin wEq (eCall (F__law_take) [] (evCons (eLoc 0) (evCons (eLoc 1) (evCons (eLit (.int 2)) (evNil))))) (eLit (.int 0)))) (sSet (tgName 6) (eB fTuple (evCons (eComp 1000000 [7] (vRng1 (evCons (eLoc 3) (evNil))) (tgName 7) (bYes) (eBin wIx (eLst (evCons (eLit (.int 0)) (evCons (eLit (.int 10)) (evCons (eLit (.int 45)) (evCons (eLit (.int 90)) (evCons (eCall (F__law_take) [] (evCons (eLoc 0) (evCons (eLoc 1) (evCons (eLit (.int 91)) (evNil))))) (evNil))))))) (eCall (F__law_take) [] (evCons (eLoc 0) (evCons (eLoc 1) (evCons (eLit (.int 5)) (evNil))))))) (evNil)))) (sNil)) (sRet (eTup (evCons (eLoc 3) (evCons (eLoc 4) (evCons (eLoc 5) (evCons (eLoc 6) (evNil))))))))))))
theorem sc__law_race : FnScope ["row", "spot", "most", "runners", "ties", "absent", "cuts", "k"] ["row", "spot", "most"] (defScope s__law_race) := ⟨rfl, rfl, rfl, by decide +kernel, rfl, by decide +kernel, by decide +kernel⟩
theorem ok__law_race {f : Addr} {fd : FuncData} (F : L2.Fun K "_law_race" "_law_race" s__law_race f fd) (T : TX K mg cl ec fld) (G__law_take : Fn ⟨K, cl, ec, fld⟩ P w mg base 2 "_law_take" 3 [] F__law_take) : FnOk P w K mg base (L2.CX P w) 3 f fd ["row", "spot", "most"] (spF ⟨K, cl, ec, fld⟩ 3 F__law_race) := by
  refine q_ok F sc__law_race rfl rfl fun cdv A outer s H E hr => ?_
  have TK := takes_of (X := cxOf (L2.CX P w) P w K mg base ["row", "spot", "most", "runners", "ties", "absent", "cuts", "k"] "_law_race" (defScope s__law_race) f cdv A outer s H E) rfl rfl rfl rfl
  exact qs_cons (qs_set (q_add rfl (qe_int) (qe_call1 G__law_take rfl (hr.mono (by first | exact Nat.le_refl _ | omega)) TK (by rfl) (qa_cons (qe_loc 0) (qa_cons (qe_loc 1) (qa_cons (qe_loc 2) (qa_nil)))) 3 rfl (evLen_cons (evLen_cons (evLen_cons evLen_nil))))) (qg_name (i := 3) (sc__law_race).nd rfl (by first | exact Or.inl rfl | exact Or.inr rfl))) (qs_cons (qs_set (q_cmp (c_eq rfl hr) (qe_call1 G__law_take rfl (hr.mono (by first | exact Nat.le_refl _ | omega)) TK (by rfl) (qa_cons (qe_loc 0) (qa_cons (qe_loc 1) (qa_cons (qe_int) (qa_nil)))) 3 rfl (evLen_cons (evLen_cons (evLen_cons evLen_nil)))) (qe_int)) (qg_name (i := 4) (sc__law_race).nd rfl (by first | exact Or.inl rfl | exact Or.inr rfl))) (qs_cons (qs_set (qe_if (t_cmp (c_eq rfl hr) (qe_call1 G__law_take rfl (hr.mono (by first | exact Nat.le_refl _ | omega)) TK (by rfl) (qa_cons (qe_loc 0) (qa_cons (qe_loc 1) (qa_cons (qe_int) (qa_nil)))) 3 rfl (evLen_cons (evLen_cons (evLen_cons evLen_nil)))) (qe_int)) (qe_typ call_tuple_of (ok_tuple rfl) (by rfl) T.b_tuple (by decide +kernel) (qa_cons (qe_comp (own := [("k", 7)]) (n := 1000000) rfl (sc__law_race).nd (qi_rng1 (by rfl) T.b_range (qa_cons (qe_loc 3) (qa_nil))) (by change BlkOk ["row", "spot", "most", "runners", "ties", "absent", "cuts", "k"] (defScope s__law_race) _ _; exact blkOk_by (by decide +kernel)) (fun _ _ _ _ _ => pg_name (i := 7) (sc__law_race).nd rfl (by first | exact Or.inl rfl | exact Or.inr rfl)) (ct_name (by decide)) (fun _ _ _ _ _ => qc_one (t_cmp (c_eq rfl hr) (qe_call1 G__law_take rfl (hr.mono (by first | exact Nat.le_refl _ | omega)) (takesX (CX := L2.CX P w)) (by rfl) (qa_cons (qe_loc 0) (qa_cons (qe_loc 1) (qa_cons (qe_int) (qa_nil)))) 3 rfl (evLen_cons (evLen_cons (evLen_cons evLen_nil)))) (qe_int))) (fun _ _ _ _ _ => qe_loc 7)) (qa_nil))) (qe_tup (qa_nil))) (qg_name (i := 5) (sc__law_race).nd rfl (by first | exact Or.inl rfl | exact Or.inr rfl))) (qs_cons (qs_set (qe_tup (qa_nil)) (qg_name (i := 6) (sc__law_race).nd rfl (by first | exact Or.inl rfl | exact Or.inr rfl))) (qs_cons (qs_if (t_cmp (c_eq rfl hr) (qe_call1 G__law_take rfl (hr.mono (by first | exact Nat.le_refl _ | omega)) TK (by rfl) (qa_cons (qe_loc 0) (qa_cons (qe_loc 1) (qa_cons (qe_int) (qa_nil)))) 3 rfl (evLen_cons (evLen_cons (evLen_cons evLen_nil)))) (qe_int)) (qs_one (qs_set (qe_typ call_tuple_of (ok_tuple rfl) (by rfl) T.b_tuple (by decide +kernel) (qa_cons (qe_comp (own := [("k", 7)]) (n := 1000000) rfl (sc__law_race).nd (qi_rng1 (by rfl) T.b_range (qa_cons (qe_loc 3) (qa_nil))) (by change BlkOk ["row", "spot", "most", "runners", "ties", "absent", "cuts", "k"] (defScope s__law_race) _ _; exact blkOk_by (by decide +kernel)) (fun _ _ _ _ _ => pg_name (i := 7) (sc__law_race).nd rfl (by first | exact Or.inl rfl | exact Or.inr rfl)) (ct_name (by decide)) (fun _ _ _ _ _ => qc_nil) (fun _ _ _ _ _ => qe_ix rfl (qe_lst (qa_cons (qe_int) (qa_cons (qe_int) (qa_cons (qe_int) (qa_cons (qe_int) (qa_cons (qe_call1 G__law_take rfl (hr.mono (by first | exact Nat.le_refl _ | omega)) (takesX (CX := L2.CX P w)) (by rfl) (qa_cons (qe_loc 0) (qa_cons (qe_loc 1) (qa_cons (qe_int) (qa_nil)))) 3 rfl (evLen_cons (evLen_cons (evLen_cons evLen_nil)))) (qa_nil))))))) (qe_call1 G__law_take rfl (hr.mono (by first | exact Nat.le_refl _ | omega)) (takesX (CX := L2.CX P w)) (by rfl) (qa_cons (qe_loc 0) (qa_cons (qe_loc 1) (qa_cons (qe_int) (qa_nil)))) 3 rfl (evLen_cons (evLen_cons (evLen_cons evLen_nil)))))) (qa_nil))) (qg_name (i := 6) (sc__law_race).nd rfl (by first | exact Or.inl rfl | exact Or.inr rfl)))) (qs_nil)) (qs_one (qs_ret (qe_tup (qa_cons (qe_loc 3) (qa_cons (qe_loc 4) (qa_cons (qe_loc 5) (qa_cons (qe_loc 6) (qa_nil))))))))))))
abbrev s_Race_init : Stmt := inClass (top 10) 0
def F_Race_init : List W → Sto → Res W := defn 5 (sSeq (sIf (bNot (bTru (eCall (F_is_integer_within) [] (evCons (eLoc 1) (evCons (eLit (.int 1)) (evCons (eLit (.int 4)) (evNil))))))) (sRaise 0 (evCons (eLit (.int 1)) (evNil))) (sNil)) (sSeq (sIf (bNot (bTru (eIsi ans_bool (eLoc 2)))) (sRaise 0 (evCons (eLit (.int 2)) (evNil))) (sNil)) (sSeq (sIf (bNot (bTru (eCall (F__is_ascending) [] (evCons (eLoc 3) (evCons (eLoc 1) (evNil)))))) (sRaise 0 (evCons (eLit (.int 3)) (evNil))) (sNil)) (sSeq (sIf (bNot (bTru (eCall (F__are_cuts) [] (evCons (eLoc 4) (evCons (eLoc 1) (evNil)))))) (sRaise 0 (evCons (eLit (.int 4)) (evNil))) (sNil)) (sSeq (sFldW 0 "_runners" (eLoc 0) (eLoc 1)) (sSeq (sFldW 0 "_ties" (eLoc 0) (eLoc 2)) (sSeq (sFldW 0 "_absent" (eLoc 0) (eB fTuple (evCons (eLoc 3) (evNil)))) (sFldW 0 "_cuts" (eLoc 0) (eIf (bVal (eBin wGt (eB fLen (evCons (eLoc 4) (evNil))) (eLit (.int 0)))) (eB fTuple (evCons (eLoc 4) (evNil))) (eBin wMul (eTup (evCons (eLit (.int 0)) (evNil))) (eLoc 1)))))))))))
theorem sc_Race_init : FnScope ["self", "runners", "ties", "absent", "cuts"] ["self", "runners", "ties", "absent", "cuts"] (defScope s_Race_init) := ⟨rfl, rfl, rfl, by decide +kernel, rfl, by decide +kernel, by decide +kernel⟩
theorem ok_Race_init {dvs : List V} {f : Addr} {fd : FuncData} (F : L2.FunD K "__init__" "Race.__init__" (defArgs s_Race_init) (defBody s_Race_init) (defScope s_Race_init) dvs [] f fd) (T : TX K mg cl ec fld) (G_is_integer_within : Fn ⟨K, cl, ec, fld⟩ P w mg base 2 "is_integer_within" 3 [] F_is_integer_within) (G__is_ascending : Fn ⟨K, cl, ec, fld⟩ P w mg base 4 "_is_ascending" 2 [] F__is_ascending) (G__are_cuts : Fn ⟨K, cl, ec, fld⟩ P w mg base 3 "_are_cuts" 2 [] F__are_cuts) : FnOk P w K mg base (L2.CX P w) 5 f fd ["self", "runners", "ties", "absent", "cuts"] (spF ⟨K, cl, ec, fld⟩ 5 F_Race_init) := by
  refine q_okD F sc_Race_init rfl rfl fun cdv A outer s H E hr => ?_
  have TK := takes_of (X := cxOf (L2.CX P w) P w K mg base ["self", "runners", "ties", "absent", "cuts"] "Race.__init__" (defScope s_Race_init) f cdv A outer s H E) rfl rfl rfl rfl
  exact qs_cons (qs_if (qt_not (qt_tru rfl (qe_call1 G_is_integer_within rfl (hr.mono (by first | exact Nat.le_refl _ | omega)) TK (by rfl) (qa_cons (qe_loc 1) (qa_cons (qe_int) (qa_cons (q_gint (by rfl) T.k_MOST_RUNNERS) (qa_nil)))) 3 rfl (evLen_cons (evLen_cons (evLen_cons evLen_nil)))))) (qs_one (qs_raise (c := 0) rfl (by rfl) T.e_BadValue T.em_BadValue hr TK rfl (qa_cons (qe_int) (qa_nil)))) (qs_nil)) (qs_cons (qs_if (qt_not (qt_tru rfl (qe_isi1 (T := .bl) T.ai_bool rfl (by rfl) T.b_isinstance (qe_loc 2) (pe_bltn (v := .ty "bool") (by rfl) T.b_bool (by decide +kernel) rfl) (.ty _) T.an_bool))) (qs_one (qs_raise (c := 0) rfl (by rfl) T.e_BadValue T.em_BadValue hr TK rfl (qa_cons (qe_int) (qa_nil)))) (qs_nil)) (qs_cons (qs_if (qt_not (qt_tru rfl (qe_call1 G__is_ascending rfl (hr.mono (by first | exact Nat.le_refl _ | omega)) TK (by rfl) (qa_cons (qe_loc 3) (qa_cons (qe_loc 1) (qa_nil))) 2 rfl (evLen_cons (evLen_cons evLen_nil))))) (qs_one (qs_raise (c := 0) rfl (by rfl) T.e_BadValue T.em_BadValue hr TK rfl (qa_cons (qe_int) (qa_nil)))) (qs_nil)) (qs_cons (qs_if (qt_not (qt_tru rfl (qe_call1 G__are_cuts rfl (hr.mono (by first | exact Nat.le_refl _ | omega)) TK (by rfl) (qa_cons (qe_loc 4) (qa_cons (qe_loc 1) (qa_nil))) 2 rfl (evLen_cons (evLen_cons evLen_nil))))) (qs_one (qs_raise (c := 0) rfl (by rfl) T.e_BadValue T.em_BadValue hr TK rfl (qa_cons (qe_int) (qa_nil)))) (qs_nil)) (qs_cons (qs_fld rfl T.c_Race.cl T.na_Race__runners (qe_loc 0) (qe_loc 1)) (qs_cons (qs_fld rfl T.c_Race.cl T.na_Race__ties (qe_loc 0) (qe_loc 2)) (qs_cons (qs_fld rfl T.c_Race.cl T.na_Race__absent (qe_loc 0) (qe_typ call_tuple_of (ok_tuple rfl) (by rfl) T.b_tuple (by decide +kernel) (qa_cons (qe_loc 3) (qa_nil)))) (qs_one (qs_fld rfl T.c_Race.cl T.na_Race__cuts (qe_loc 0) (qe_if (t_cmp c_gt (qe_blt call_len (ok_len rfl) (by rfl) T.b_len (by decide +kernel) (qa_cons (qe_loc 4) (qa_nil))) (qe_int)) (qe_typ call_tuple_of (ok_tuple rfl) (by rfl) T.b_tuple (by decide +kernel) (qa_cons (qe_loc 4) (qa_nil))) (q_mul rfl (qe_tup (qa_cons (qe_int) (qa_nil))) (qe_loc 1)))))))))))
abbrev s__law_made : Stmt := top 30
def F__law_made : List W → Sto → Res W := defn 1 (sRet (eMake 0 F_Race_init [] (evCons (eBin wIx (eLoc 0) (eLit (.int 0))) (evCons (eBin wIx (eLoc 0) (eLit (.int 1))) (evCons (eBin wIx (eLoc 0) (eLit (.int 2))) (evCons (eBin wIx (eLoc 0) (eLit (.int 3))) (evNil)))))))
theorem sc__law_made : FnScope ["race"] ["race"] (defScope s__law_made) := ⟨rfl, rfl, rfl, by decide +kernel, rfl, by decide +kernel, by decide +kernel⟩
theorem ok__law_made {f : Addr} {fd : FuncData} (F : L2.Fun K "_law_made" "_law_made" s__law_made f fd) (T : TX K mg cl ec fld) (G_Race_init : FnI ⟨K, cl, ec, fld⟩ P w mg base 5 "Race" 0 5 [] F_Race_init) : FnOk P w K mg base (L2.CX P w) 7 f fd ["race"] (spF ⟨K, cl, ec, fld⟩ 1 F__law_made) := by
  refine q_ok F sc__law_made rfl rfl fun cdv A outer s H E hr => ?_
  have TK := takes_of (X := cxOf (L2.CX P w) P w K mg base ["race"] "_law_made" (defScope s__law_made) f cdv A outer s H E) rfl rfl rfl rfl
  exact qs_one (qs_ret (qe_make G_Race_init rfl (hr.mono (by first | exact Nat.le_refl _ | omega)) TK (by rfl) (qa_cons (qe_ix rfl (qe_loc 0) (qe_int)) (qa_cons (qe_ix rfl (qe_loc 0) (qe_int)) (qa_cons (qe_ix rfl (qe_loc 0) (qe_int)) (qa_cons (qe_ix rfl (qe_loc 0) (qe_int)) (qa_nil))))) 4 rfl (evLen_cons (evLen_cons (evLen_cons (evLen_cons evLen_nil))))))
abbrev s__law_subsets : Stmt := top 31
def F__law_subsets : List W → Sto → Res W := defn 4 (sSeq (sSet (tgName 1) (eLst (evCons (eTup (evNil)) (evNil)))) (sSeq (sFor 1000000 (vSeq (eLoc 0)) (tgName 2) (sSet (tgName 1) (eBin wAdd (eLoc 1) (eComp 1000000 [3] (vSeq (eLoc 1)) (tgName 3) (bYes) (eBin wAdd (eLoc 3) (eTup (evCons (eLoc 2) (evNil)))))))) (sRet (eLoc 1))))
theorem sc__law_subsets : FnScope ["ones", "made", "one", "rest"] ["ones"] (defScope s__law_subsets) := ⟨rfl, rfl, rfl, by decide +kernel, rfl, by decide +kernel, by decide +kernel⟩
theorem ok__law_subsets {f : Addr} {fd : FuncData} (F : L2.Fun K "_law_subsets" "_law_subsets" s__law_subsets f fd) (T : TX K mg cl ec fld) : FnOk P w K mg base (L2.CX P w) 1 f fd ["ones"] (spF ⟨K, cl, ec, fld⟩ 1 F__law_subsets) := by
  refine q_ok F sc__law_subsets rfl rfl fun cdv A outer s H E hr => ?_
  have TK := takes_of (X := cxOf (L2.CX P w) P w K mg base ["ones", "made", "one", "rest"] "_law_subsets" (defScope s__law_subsets) f cdv A outer s H E) rfl rfl rfl rfl
  exact qs_cons (qs_set (qe_lst (qa_cons (qe_tup (qa_nil)) (qa_nil))) (qg_name (i := 1) (sc__law_subsets).nd rfl (by first | exact Or.inl rfl | exact Or.inr rfl))) (qs_cons (qs_for (n := 1000000) (passes_of (K := _) rfl) rfl (qi_seq rfl (qe_loc 0)) (qg_name (i := 2) (sc__law_subsets).nd rfl (by first | exact Or.inl rfl | exact Or.inr rfl)) (qs_one (qs_set (q_add rfl (qe_loc 1) (qe_comp (own := [("rest", 3)]) (n := 1000000) rfl (sc__law_subsets).nd (qi_seq rfl (qe_loc 1)) (by change BlkOk ["ones", "made", "one", "rest"] (defScope s__law_subsets) _ _; exact blkOk_by (by decide +kernel)) (fun _ _ _ _ _ => pg_name (i := 3) (sc__law_subsets).nd rfl (by first | exact Or.inl rfl | exact Or.inr rfl)) (ct_name (by decide)) (fun _ _ _ _ _ => qc_nil) (fun _ _ _ _ _ => q_add rfl (qe_loc 3) (qe_tup (qa_cons (qe_loc 2) (qa_nil)))))) (qg_name (i := 1) (sc__law_subsets).nd rfl (by first | exact Or.inl rfl | exact Or.inr rfl))))) (qs_one (qs_ret (qe_loc 1))))
abbrev s__law_orders : Stmt := top 32
def F__law_orders : Nat → List W → Sto → Res W
  | 0 => fun _ _ => .err
  | d + 1 => defn 6 (sSeq (sIf (bVal (eBin wEq (eB fLen (evCons (eLoc 0) (evNil))) (eLit (.int 0)))) (sRet (eLst (evCons (eTup (evNil)) (evNil)))) (sNil)) (sSeq (sSet (tgName 2) (eLst (evNil))) (sSeq (sFor 1000000 (vSeq (eCall (F__law_subsets) [] (evCons (eLoc 0) (evNil)))) (tgName 3) (sIf (bAnd (bVal (eBin wGt (eB fLen (evCons (eLoc 3) (evNil))) (eLit (.int 0)))) (bOr (bTru (eLoc 1)) (bVal (eBin wEq (eB fLen (evCons (eLoc 3) (evNil))) (eLit (.int 1)))))) (sFor 1000000 (vSeq (eCall (F__law_orders d) [] (evCons (eB fTuple (evCons (eComp 1000000 [5] (vSeq (eLoc 0)) (tgName 5) (bVal (eBin wNotIn (eLoc 5) (eLoc 3))) (eLoc 5)) (evNil))) (evCons (eLoc 1) (evNil))))) (tgName 4) (sDrop (eMt fAppend (eLoc 2) (evCons (eBin wAdd (eTup (evCons (eLoc 3) (evNil))) (eLoc 4)) (evNil))))) (sNil))) (sRet (eLoc 2)))))
theorem sc__law_orders : FnScope ["ones", "ties", "made", "group", "rest", "one"] ["ones", "ties"] (defScope s__law_orders) := ⟨rfl, rfl, rfl, by decide +kernel, rfl, by decide +kernel, by decide +kernel⟩
theorem ok__law_orders {f : Addr} {fd : FuncData} (F : L2.Fun K "_law_orders" "_law_orders" s__law_orders f fd) (T : TX K mg cl ec fld) (G__law_subsets : Fn ⟨K, cl, ec, fld⟩ P w mg base 1 "_law_subsets" 1 [] F__law_subsets) {d : Nat} (G_self : Fn ⟨K, cl, ec, fld⟩ P w mg base (1 + d) "_law_orders" 2 [] (F__law_orders d)) : FnOk P w K mg base (L2.CX P w) (1 + d + 1) f fd ["ones", "ties"] (spF ⟨K, cl, ec, fld⟩ 2 (F__law_orders (d + 1))) := by
  refine q_ok F sc__law_orders rfl rfl fun cdv A outer s H E hr => ?_
  have TK := takes_of (X := cxOf (L2.CX P w) P w K mg base ["ones", "ties", "made", "group", "rest", "one"] "_law_orders" (defScope s__law_orders) f cdv A outer s H E) rfl rfl rfl rfl
  exact qs_cons (qs_if (t_cmp (c_eq rfl hr) (qe_blt call_len (ok_len rfl) (by rfl) T.b_len (by decide +kernel) (qa_cons (qe_loc 0) (qa_nil))) (qe_int)) (qs_one (qs_ret (qe_lst (qa_cons (qe_tup (qa_nil)) (qa_nil))))) (qs_nil)) (qs_cons (qs_set (qe_lst (qa_nil)) (qg_name (i := 2) (sc__law_orders).nd rfl (by first | exact Or.inl rfl | exact Or.inr rfl))) (qs_cons (qs_for (n := 1000000) (passes_of (K := _) rfl) rfl (qi_seq rfl (qe_call1 G__law_subsets rfl (hr.mono (by first | exact Nat.le_refl _ | omega)) TK (by rfl) (qa_cons (qe_loc 0) (qa_nil)) 1 rfl (evLen_cons evLen_nil))) (qg_name (i := 3) (sc__law_orders).nd rfl (by first | exact Or.inl rfl | exact Or.inr rfl)) (qs_one (qs_if (qw_pt (qw_and (t_cmp c_gt (qe_blt call_len (ok_len rfl) (by rfl) T.b_len (by decide +kernel) (qa_cons (qe_loc 3) (qa_nil))) (qe_int)) (qw_and1 (qw_pt (qw_or (qt_tru rfl (qe_loc 1)) (qw_or1 (t_cmp (c_eq rfl hr) (qe_blt call_len (ok_len rfl) (by rfl) T.b_len (by decide +kernel) (qa_cons (qe_loc 3) (qa_nil))) (qe_int)))))))) (qs_one (qs_for (n := 1000000) (passes_of (K := _) rfl) rfl (qi_seq rfl (qe_call1 G_self rfl (hr.mono (by omega)) TK (by rfl) (qa_cons (qe_typ call_tuple_of (ok_tuple rfl) (by rfl) T.b_tuple (by decide +kernel) (qa_cons (qe_comp (own := [("one", 5)]) (n := 1000000) rfl (sc__law_orders).nd (qi_seq rfl (qe_loc 0)) (by change BlkOk ["ones", "ties", "made", "group", "rest", "one"] (defScope s__law_orders) _ _; exact blkOk_by (by decide +kernel)) (fun _ _ _ _ _ => pg_name (i := 5) (sc__law_orders).nd rfl (by first | exact Or.inl rfl | exact Or.inr rfl)) (ct_name (by decide)) (fun _ _ _ _ _ => qc_one (t_cmp (c_notIn rfl hr) (qe_loc 5) (qe_loc 3))) (fun _ _ _ _ _ => qe_loc 5)) (qa_nil))) (qa_cons (qe_loc 1) (qa_nil))) 2 rfl (evLen_cons (evLen_cons evLen_nil)))) (qg_name (i := 4) (sc__law_orders).nd rfl (by first | exact Or.inl rfl | exact Or.inr rfl)) (qs_one (qs_drop (qe_mt rfl PySem.F.slot_list_append PySem.F.type_list_append mt_append mok_append (qe_loc 2) (qa_cons (q_add rfl (qe_tup (qa_cons (qe_loc 3) (qa_nil))) (qe_loc 4)) (qa_nil))))))) (qs_nil)))) (qs_one (qs_ret (qe_loc 2)))))
abbrev s__law_outcomes : Stmt := top 33
def F__law_outcomes : List W → Sto → Res W := defn 5 (sSeq (sSet (tgName 1) (eLst (evNil))) (sSeq (sFor 1000000 (vSeq (eCall (F__law_subsets) [] (evCons (eBin wIx (eLoc 0) (eLit (.int 2))) (evNil)))) (tgName 2) (sSeq (sSet (tgName 3) (eB fTuple (evCons (eComp 1000000 [4] (vRng1 (evCons (eBin wIx (eLoc 0) (eLit (.int 0))) (evNil))) (tgName 4) (bVal (eBin wNotIn (eLoc 4) (eLoc 2))) (eLoc 4)) (evNil)))) (sIf (bVal (eBin wGt (eB fLen (evCons (eLoc 3) (evNil))) (eLit (.int 0)))) (sSet (tgName 1) (eBin wAdd (eLoc 1) (eCall (F__law_orders 6) [] (evCons (eLoc 3) (evCons (eBin wIx (eLoc 0) (eLit (.int 1))) (evNil)))))) (sNil)))) (sRet (eB fTuple (evCons (eB fSortD (evCons (eLoc 1) (evNil))) (evNil))))))
theorem sc__law_outcomes : FnScope ["race", "made", "gone", "here", "k"] ["race"] (defScope s__law_outcomes) := ⟨rfl, rfl, rfl, by decide +kernel, rfl, by decide +kernel, by decide +kernel⟩
theorem ok__law_outcomes {f : Addr} {fd : FuncData} (F : L2.Fun K "_law_outcomes" "_law_outcomes" s__law_outcomes f fd) (T : TX K mg cl ec fld) (G__law_subsets : Fn ⟨K, cl, ec, fld⟩ P w mg base 1 "_law_subsets" 1 [] F__law_subsets) (G__law_orders : Fn ⟨K, cl, ec, fld⟩ P w mg base 7 "_law_orders" 2 [] (F__law_orders 6)) : FnOk P w K mg base (L2.CX P w) 8 f fd ["race"] (spF ⟨K, cl, ec, fld⟩ 1 F__law_outcomes) := by
  refine q_ok F sc__law_outcomes rfl rfl fun cdv A outer s H E hr => ?_
  have TK := takes_of (X := cxOf (L2.CX P w) P w K mg base ["race", "made", "gone", "here", "k"] "_law_outcomes" (defScope s__law_outcomes) f cdv A outer s H E) rfl rfl rfl rfl
  exact qs_cons (qs_set (qe_lst (qa_nil)) (qg_name (i := 1) (sc__law_outcomes).nd rfl (by first | exact Or.inl rfl | exact Or.inr rfl))) (qs_cons (qs_for (n := 1000000) (passes_of (K := _) rfl) rfl (qi_seq rfl (qe_call1 G__law_subsets rfl (hr.mono (by first | exact Nat.le_refl _ | omega)) TK (by rfl) (qa_cons (qe_ix rfl (qe_loc 0) (qe_int)) (qa_nil)) 1 rfl (evLen_cons evLen_nil))) (qg_name (i := 2) (sc__law_outcomes).nd rfl (by first | exact Or.inl rfl | exact Or.inr rfl)) (qs_cons (qs_set (qe_typ call_tuple_of (ok_tuple rfl) (by rfl) T.b_tuple (by decide +kernel) (qa_cons (qe_comp (own := [("k", 4)]) (n := 1000000) rfl (sc__law_outcomes).nd (qi_rng1 (by rfl) T.b_range (qa_cons (qe_ix rfl (qe_loc 0) (qe_int)) (qa_nil))) (by change BlkOk ["race", "made", "gone", "here", "k"] (defScope s__law_outcomes) _ _; exact blkOk_by (by decide +kernel)) (fun _ _ _ _ _ => pg_name (i := 4) (sc__law_outcomes).nd rfl (by first | exact Or.inl rfl | exact Or.inr rfl)) (ct_name (by decide)) (fun _ _ _ _ _ => qc_one (t_cmp (c_notIn rfl hr) (qe_loc 4) (qe_loc 2))) (fun _ _ _ _ _ => qe_loc 4)) (qa_nil))) (qg_name (i := 3) (sc__law_outcomes).nd rfl (by first | exact Or.inl rfl | exact Or.inr rfl))) (qs_one (qs_if (t_cmp c_gt (qe_blt call_len (ok_len rfl) (by rfl) T.b_len (by decide +kernel) (qa_cons (qe_loc 3) (qa_nil))) (qe_int)) (qs_one (qs_set (q_add rfl (qe_loc 1) (qe_call1 G__law_orders rfl (hr.mono (by first | exact Nat.le_refl _ | omega)) TK (by rfl) (qa_cons (qe_loc 3) (qa_cons (qe_ix rfl (qe_loc 0) (qe_int)) (qa_nil))) 2 rfl (evLen_cons (evLen_cons evLen_nil)))) (qg_name (i := 1) (sc__law_outcomes).nd rfl (by first | exact Or.inl rfl | exact Or.inr rfl)))) (qs_nil))))) (qs_one (qs_ret (qe_typ call_tuple_of (ok_tuple rfl) (by rfl) T.b_tuple (by decide +kernel) (qa_cons (qe_blt (cr_sortD (un64 hr)) (ok_sortD rfl) (by rfl) T.b_sorted (by decide +kernel) (qa_cons (qe_loc 1) (qa_nil))) (qa_nil))))))
abbrev s__law_plain_in : Stmt := top 34
def F__law_plain_in : List W → Sto → Res W := defn 3 (sSeq (sFor 1000000 (vSeq (eLoc 1)) (tgName 2) (sIf (bTru (eCall (F__law_so 6) [] (evCons (eLoc 0) (evCons (eLoc 2) (evNil))))) (sRet (eLit (.bl true))) (sNil))) (sRet (eLit (.bl false))))
theorem sc__law_plain_in : FnScope ["value", "due", "one"] ["value", "due"] (defScope s__law_plain_in) := ⟨rfl, rfl, rfl, by decide +kernel, rfl, by decide +kernel, by decide +kernel⟩
theorem ok__law_plain_in {f : Addr} {fd : FuncData} (F : L2.Fun K "_law_plain_in" "_law_plain_in" s__law_plain_in f fd) (T : TX K mg cl ec fld) (G__law_so : Fn ⟨K, cl, ec, fld⟩ P w mg base 6 "_law_so" 2 [] (F__law_so 6)) : FnOk P w K mg base (L2.CX P w) 7 f fd ["value", "due"] (spF ⟨K, cl, ec, fld⟩ 2 F__law_plain_in) := by
  refine q_ok F sc__law_plain_in rfl rfl fun cdv A outer s H E hr => ?_
  have TK := takes_of (X := cxOf (L2.CX P w) P w K mg base ["value", "due", "one"] "_law_plain_in" (defScope s__law_plain_in) f cdv A outer s H E) rfl rfl rfl rfl
  exact qs_cons (qs_for (n := 1000000) (passes_of (K := _) rfl) rfl (qi_seq rfl (qe_loc 1)) (qg_name (i := 2) (sc__law_plain_in).nd rfl (by first | exact Or.inl rfl | exact Or.inr rfl)) (qs_one (qs_if (qt_tru rfl (qe_call1 G__law_so rfl (hr.mono (by first | exact Nat.le_refl _ | omega)) TK (by rfl) (qa_cons (qe_loc 0) (qa_cons (qe_loc 2) (qa_nil))) 2 rfl (evLen_cons (evLen_cons evLen_nil)))) (qs_one (qs_ret (qe_bl))) (qs_nil)))) (qs_one (qs_ret (qe_bl)))
abbrev s_law : Stmt := top 35
def F_law : List W → Sto → Res W := defn 10 (sSeq (sSet (tgName 1) (eCall (F__law_numbers) [] (evCons (eLoc 0) (evNil)))) (sSeq (sSet (tgName 2) (eLst (evCons (eLit (.int 0)) (evNil)))) (sSeq (sSet (tgName 3) (eCall (F__law_race) [] (evCons (eLoc 1) (evCons (eLoc 2) (evCons (eLit (.int 4)) (evNil)))))) (sSeq (sSet (tgName 4) (eCall (F__law_made) [] (evCons (eLoc 3) (evNil)))) (sSeq (sSet (tgName 5) (eCall (F__law_outcomes) [] (evCons (eLoc 3) (evNil)))) (sSeq (sIf (bOr (bNot (bTru (eCall (F__law_so 6) [] (evCons (eCall (F_outcomes) [] (evCons (eLoc 4) (evNil))) (evCons (eLoc 5) (evNil)))))) (bNot (bTru (eCall (F__law_so 6) [] (evCons (eCall (F_outcomes) [] (evCons (eLoc 4) (evNil))) (evCons (eLoc 5) (evNil))))))) (sRet (eLit (.bl false))) (sNil)) (sSeq (sSet (tgName 6) (eBin wIx (eLoc 5) (eCall (F__law_take) [] (evCons (eLoc 1) (evCons (eLoc 2) (evCons (eB fLen (evCons (eLoc 5) (evNil))) (evNil))))))) (sSeq (sIf (bNot (bTru (eCall (F__law_so 6) [] (evCons (eCall (F_is_outcome) [] (evCons (eLoc 4) (evCons (eCall (F__law_loose 6) [] (evCons (eLoc 6) (evCons (eCall (F__law_take) [] (evCons (eLoc 1) (evCons (eLoc 2) (evCons (eLit (.int 2)) (evNil))))) (evNil)))) (evNil)))) (evCons (eLit (.bl true)) (evNil)))))) (sRet (eLit (.bl false))) (sNil)) (sSeq (sSet (tgName 7) (eLst (evCons (eLit .non) (evCons (eLit (.int 5)) (evCons (eTup (evNil)) (evCons (eTup (evCons (eTup (evNil)) (evNil))) (evCons (eBin wAdd (eLoc 6) (eTup (evCons (eTup (evNil)) (evNil)))) (evCons (eSl (eLoc 6) (poSome (eLit (.int 1))) (poNone)) (evCons (eU fRev (eLoc 6)) (evCons (eBin wAdd (eLoc 6) (eSl (eLoc 6) (poNone) (poSome (eLit (.int 1))))) (evCons (eTup (evCons (eTup (evCons (eBin wIx (eLoc 3) (eLit (.int 0))) (evNil))) (evNil))) (evCons (eTup (evCons (eTup (evCons (eLit (.bl true)) (evNil))) (evNil))) (evCons (eTup (evCons (eLit (.int 0)) (evNil))) (evCons (eTup (evCons (eTup (evCons (eLit (.int 0)) (evCons (eLit (.int 0)) (evNil)))) (evNil))) (evCons (eTup (evCons (eTup (evCons (eLit (.int 1)) (evCons (eLit (.int 0)) (evNil)))) (evNil))) (evCons (eB fTuple (evCons (eComp 1000000 [9] (vRng1 (evCons (eLit (.int 4)) (evNil))) (tgName 9) (bYes) (eTup (evCons (eLoc 9) (evNil)))) (evNil))) (evNil))))))))))))))))) (sSeq (sSet (tgName 7) (eBin wAdd (eLoc 7) (eLst (evCons (eTup (evCons (eTup (evCons (eLit (.int 0)) (evCons (eLit (.int 1)) (evNil)))) (evCons (eTup (evCons (eLit (.int 2)) (evNil))) (evNil)))) (evCons (eTup (evCons (eTup (evCons (eLit (.int 0)) (evCons (eLit (.int 1)) (evCons (eLit (.int 2)) (evNil))))) (evNil))) (evCons (eLit (.str "ab")) (evNil))))))) (sSeq (sSet (tgName 8) (eBin wIx (eLoc 7) (eCall (F__law_take) [] (evCons (eLoc 1) (evCons (eLoc 2) (evCons (eB fLen (evCons (eLoc 7) (evNil))) (evNil))))))) (sRet (eCall (F__law_so 6) [] (evCons (eCall (F_is_outcome) [] (evCons (eLoc 4) (evCons (eLoc 8) (evNil)))) (evCons (eAnd (eIsi ans_tuple (eLoc 8)) (eCall (F__law_plain_in) [] (evCons (eLoc 8) (evCons (eLoc 5) (evNil))))) (evNil))))))))))))))))
theorem sc_law : FnScope ["script", "row", "spot", "race", "made", "due", "one", "values", "value", "k"] ["script"] (defScope s_law) := ⟨rfl, rfl, rfl, by decide +kernel, rfl, by decide +kernel, by decide +kernel⟩
theorem ok_law {f : Addr} {fd : FuncData} (F : L2.Fun K "law" "law" s_law f fd) (T : TX K mg cl ec fld) (G__law_numbers : Fn ⟨K, cl, ec, fld⟩ P w mg base 1 "_law_numbers" 1 [] F__law_numbers) (G__law_race : Fn ⟨K, cl, ec, fld⟩ P w mg base 3 "_law_race" 3 [] F__law_race) (G__law_made : Fn ⟨K, cl, ec, fld⟩ P w mg base 7 "_law_made" 1 [] F__law_made) (G__law_outcomes : Fn ⟨K, cl, ec, fld⟩ P w mg base 8 "_law_outcomes" 1 [] F__law_outcomes) (G__law_so : Fn ⟨K, cl, ec, fld⟩ P w mg base 6 "_law_so" 2 [] (F__law_so 6)) (G__law_take : Fn ⟨K, cl, ec, fld⟩ P w mg base 2 "_law_take" 3 [] F__law_take) (G_is_outcome : Fn ⟨K, cl, ec, fld⟩ P w mg base 6 "is_outcome" 2 [] F_is_outcome) (G__law_plain_in : Fn ⟨K, cl, ec, fld⟩ P w mg base 7 "_law_plain_in" 2 [] F__law_plain_in) (G_outcomes : Fn ⟨K, cl, ec, fld⟩ P w mg base 8 "outcomes" 1 [] F_outcomes) (G__law_loose : Fn ⟨K, cl, ec, fld⟩ P w mg base 6 "_law_loose" 2 [] (F__law_loose 6)) (K_outcomes : FnK ⟨K, cl, ec, fld⟩ P w mg base 8 "outcomes" ["race"] F_outcomes) : FnOk P w K mg base (L2.CX P w) 9 f fd ["script"] (spF ⟨K, cl, ec, fld⟩ 1 F_law) := by
  refine q_ok F sc_law rfl rfl fun cdv A outer s H E hr => ?_
  have TK := takes_of (X := cxOf (L2.CX P w) P w K mg base ["script", "row", "spot", "race", "made", "due", "one", "values", "value", "k"] "law" (defScope s_law) f cdv A outer s H E) rfl rfl rfl rfl
  exact qs_cons (qs_set (qe_call1 G__law_numbers rfl (hr.mono (by first | exact Nat.le_refl _ | omega)) TK (by rfl) (qa_cons (qe_loc 0) (qa_nil)) 1 rfl (evLen_cons evLen_nil)) (qg_name (i := 1) (sc_law).nd rfl (by first | exact Or.inl rfl | exact Or.inr rfl))) (qs_cons (qs_set (qe_lst (qa_cons (qe_int) (qa_nil))) (qg_name (i := 2) (sc_law).nd rfl (by first | exact Or.inl rfl | exact Or.inr rfl))) (qs_cons (qs_set (qe_call1 G__law_race rfl (hr.mono (by first | exact Nat.le_refl _ | omega)) TK (by rfl) (qa_cons (qe_loc 1) (qa_cons (qe_loc 2) (qa_cons (qe_int) (qa_nil)))) 3 rfl (evLen_cons (evLen_cons (evLen_cons evLen_nil)))) (qg_name (i := 3) (sc_law).nd rfl (by first | exact Or.inl rfl | exact Or.inr rfl))) (qs_cons (qs_set (qe_call1 G__law_made rfl (hr.mono (by first | exact Nat.le_refl _ | omega)) TK (by rfl) (qa_cons (qe_loc 3) (qa_nil)) 1 rfl (evLen_cons evLen_nil)) (qg_name (i := 4) (sc_law).nd rfl (by first | exact Or.inl rfl | exact Or.inr rfl))) (qs_cons (qs_set (qe_call1 G__law_outcomes rfl (hr.mono (by first | exact Nat.le_refl _ | omega)) TK (by rfl) (qa_cons (qe_loc 3) (qa_nil)) 1 rfl (evLen_cons evLen_nil)) (qg_name (i := 5) (sc_law).nd rfl (by first | exact Or.inl rfl | exact Or.inr rfl))) (qs_cons (qs_if (qw_pt (qw_or (qt_not (qt_tru rfl (qe_call1 G__law_so rfl (hr.mono (by first | exact Nat.le_refl _ | omega)) TK (by rfl) (qa_cons (qe_call1 G_outcomes rfl (hr.mono (by first | exact Nat.le_refl _ | omega)) TK (by rfl) (qa_cons (qe_loc 4) (qa_nil)) 1 rfl (evLen_cons evLen_nil)) (qa_cons (qe_loc 5) (qa_nil))) 2 rfl (evLen_cons (evLen_cons evLen_nil))))) (qw_or1 (qt_not (qt_tru rfl (qe_call1 G__law_so rfl (hr.mono (by first | exact Nat.le_refl _ | omega)) TK (by rfl) (qa_cons (qe_callK K_outcomes rfl (hr.mono (by first | exact Nat.le_refl _ | omega)) TK (by rfl) (qk_cons (qe_loc 4) (qk_nil)) (evLen_cons evLen_nil)) (qa_cons (qe_loc 5) (qa_nil))) 2 rfl (evLen_cons (evLen_cons evLen_nil)))))))) (qs_one (qs_ret (qe_bl))) (qs_nil)) (qs_cons (qs_set (qe_ix rfl (qe_loc 5) (qe_call1 G__law_take rfl (hr.mono (by first | exact Nat.le_refl _ | omega)) TK (by rfl) (qa_cons (qe_loc 1) (qa_cons (qe_loc 2) (qa_cons (qe_blt call_len (ok_len rfl) (by rfl) T.b_len (by decide +kernel) (qa_cons (qe_loc 5) (qa_nil))) (qa_nil)))) 3 rfl (evLen_cons (evLen_cons (evLen_cons evLen_nil))))) (qg_name (i := 6) (sc_law).nd rfl (by first | exact Or.inl rfl | exact Or.inr rfl))) (qs_cons (qs_if (qt_not (qt_tru rfl (qe_call1 G__law_so rfl (hr.mono (by first | exact Nat.le_refl _ | omega)) TK (by rfl) (qa_cons (qe_call1 G_is_outcome rfl (hr.mono (by first | exact Nat.le_refl _ | omega)) TK (by rfl) (qa_cons (qe_loc 4) (qa_cons (qe_call1 G__law_loose rfl (hr.mono (by first | exact Nat.le_refl _ | omega)) TK (by rfl) (qa_cons (qe_loc 6) (qa_cons (qe_call1 G__law_take rfl (hr.mono (by first | exact Nat.le_refl _ | omega)) TK (by rfl) (qa_cons (qe_loc 1) (qa_cons (qe_loc 2) (qa_cons (qe_int) (qa_nil)))) 3 rfl (evLen_cons (evLen_cons (evLen_cons evLen_nil)))) (qa_nil))) 2 rfl (evLen_cons (evLen_cons evLen_nil))) (qa_nil))) 2 rfl (evLen_cons (evLen_cons evLen_nil))) (qa_cons (qe_bl) (qa_nil))) 2 rfl (evLen_cons (evLen_cons evLen_nil))))) (qs_one (qs_ret (qe_bl))) (qs_nil)) (qs_cons (qs_set (qe_lst (qa_cons (qe_non) (qa_cons (qe_int) (qa_cons (qe_tup (qa_nil)) (qa_cons (qe_tup (qa_cons (qe_tup (qa_nil)) (qa_nil))) (qa_cons (q_add rfl (qe_loc 6) (qe_tup (qa_cons (qe_tup (qa_nil)) (qa_nil)))) (qa_cons (qe_sl rfl (qe_loc 6) (qo_some (qe_int)) (qo_none)) (qa_cons (q_rev rfl (qe_loc 6)) (qa_cons (q_add rfl (qe_loc 6) (qe_sl rfl (qe_loc 6) (qo_none) (qo_some (qe_int)))) (qa_cons (qe_tup (qa_cons (qe_tup (qa_cons (qe_ix rfl (qe_loc 3) (qe_int)) (qa_nil))) (qa_nil))) (qa_cons (qe_tup (qa_cons (qe_tup (qa_cons (qe_bl) (qa_nil))) (qa_nil))) (qa_cons (qe_tup (qa_cons (qe_int) (qa_nil))) (qa_cons (qe_tup (qa_cons (qe_tup (qa_cons (qe_int) (qa_cons (qe_int) (qa_nil)))) (qa_nil))) (qa_cons (qe_tup (qa_cons (qe_tup (qa_cons (qe_int) (qa_cons (qe_int) (qa_nil)))) (qa_nil))) (qa_cons (qe_typ call_tuple_of (ok_tuple rfl) (by rfl) T.b_tuple (by decide +kernel) (qa_cons (qe_comp (own := [("k", 9)]) (n := 1000000) rfl (sc_law).nd (qi_rng1 (by rfl) T.b_range (qa_cons (qe_int) (qa_nil))) (by change BlkOk ["script", "row", "spot", "race", "made", "due", "one", "values", "value", "k"] (defScope s_law) _ _; exact blkOk_by (by decide +kernel)) (fun _ _ _ _ _ => pg_name (i := 9) (sc_law).nd rfl (by first | exact Or.inl rfl | exact Or.inr rfl)) (ct_name (by decide)) (fun _ _ _ _ _ => qc_nil) (fun _ _ _ _ _ => qe_tup (qa_cons (qe_loc 9) (qa_nil)))) (qa_nil))) (qa_nil)))))))))))))))) (qg_name (i := 7) (sc_law).nd rfl (by first | exact Or.inl rfl | exact Or.inr rfl))) (qs_cons (qs_set (q_add rfl (qe_loc 7) (qe_lst (qa_cons (qe_tup (qa_cons (qe_tup (qa_cons (qe_int) (qa_cons (qe_int) (qa_nil)))) (qa_cons (qe_tup (qa_cons (qe_int) (qa_nil))) (qa_nil)))) (qa_cons (qe_tup (qa_cons (qe_tup (qa_cons (qe_int) (qa_cons (qe_int) (qa_cons (qe_int) (qa_nil))))) (qa_nil))) (qa_cons (qe_str) (qa_nil)))))) (qg_name (i := 7) (sc_law).nd rfl (by first | exact Or.inl rfl | exact Or.inr rfl))) (qs_cons (qs_set (qe_ix rfl (qe_loc 7) (qe_call1 G__law_take rfl (hr.mono (by first | exact Nat.le_refl _ | omega)) TK (by rfl) (qa_cons (qe_loc 1) (qa_cons (qe_loc 2) (qa_cons (qe_blt call_len (ok_len rfl) (by rfl) T.b_len (by decide +kernel) (qa_cons (qe_loc 7) (qa_nil))) (qa_nil)))) 3 rfl (evLen_cons (evLen_cons (evLen_cons evLen_nil))))) (qg_name (i := 8) (sc_law).nd rfl (by first | exact Or.inl rfl | exact Or.inr rfl))) (qs_one (qs_ret (qe_call1 G__law_so rfl (hr.mono (by first | exact Nat.le_refl _ | omega)) TK (by rfl) (qa_cons (qe_call1 G_is_outcome rfl (hr.mono (by first | exact Nat.le_refl _ | omega)) TK (by rfl) (qa_cons (qe_loc 4) (qa_cons (qe_loc 8) (qa_nil))) 2 rfl (evLen_cons (evLen_cons evLen_nil))) (qa_cons (qe_and (qe_isi1 (T := .tup) T.ai_tuple rfl (by rfl) T.b_isinstance (qe_loc 8) (pe_bltn (v := .ty "tuple") (by rfl) T.b_tuple (by decide +kernel) rfl) (.ty _) T.an_tuple) (qe_one (qe_call1 G__law_plain_in rfl (hr.mono (by first | exact Nat.le_refl _ | omega)) TK (by rfl) (qa_cons (qe_loc 8) (qa_cons (qe_loc 5) (qa_nil))) 2 rfl (evLen_cons (evLen_cons evLen_nil))))) (qa_nil))) 2 rfl (evLen_cons (evLen_cons evLen_nil)))))))))))))))
abbrev s_Race_cuts : Stmt := inClass (top 10) 4
def F_Race_cuts : List W → Sto → Res W := defn 1 (sRet (eFld 0 "_cuts" (eLoc 0)))
theorem sc_Race_cuts : FnScope ["self"] ["self"] (defScope s_Race_cuts) := ⟨rfl, rfl, rfl, by decide +kernel, rfl, by decide +kernel, by decide +kernel⟩
theorem ok_Race_cuts {f : Addr} {fd : FuncData} (F : L2.Fun K "cuts" "Race.cuts" s_Race_cuts f fd) (T : TX K mg cl ec fld) : FnOk P w K mg base (L2.CX P w) 1 f fd ["self"] (spF ⟨K, cl, ec, fld⟩ 1 F_Race_cuts) := by
  refine q_ok F sc_Race_cuts rfl rfl fun cdv A outer s H E hr => ?_
  have TK := takes_of (X := cxOf (L2.CX P w) P w K mg base ["self"] "Race.cuts" (defScope s_Race_cuts) f cdv A outer s H E) rfl rfl rfl rfl
  exact qs_one (qs_ret (qe_fld rfl T.c_Race.cl T.na_Race__cuts (qe_loc 0)))
end
end LW

set_option Elab.async false
set_option linter.all false
set_option maxRecDepth 100000
set_option maxHeartbeats 4000000
namespace LW
open PySem RB
local macro_rules | `(tactic| exists $es,*) => `(tactic| simp (config := {decide := false, implicitDefEqProofs := false}) only [k_ok, k_exc, k_err, k_ite, k_iteS, k_nx, k_rt, k_loc, k_lit, k_nil, k_cons, k_tup, k_lst, k_bin, k_eB, k_eU, k_call, k_tru, k_not, k_and, k_or, k_if, k_eAnd, k_eOr, k_eNot, k_val, k_chain, k_sNil, k_sSeq, k_sSet, tgName, tgTup, tgCons, tgNil, Option.bind_some, k_sDrop, k_sRet, k_sRetN, k_sIf, k_sBreak, k_sCont, k_sFor, k_sRaise, k_sTry, k_defn, k_vSeq, k_rng1, k_comp,
  v_add, v_sub, v_mul, v_mod, v_div, v_lt, v_le, v_gt, v_ge, v_eq, v_ne, v_neg, v_int, v_min,
  List.map_cons, List.map_nil, List.length_cons, List.length_nil, List.replicate_succ, List.replicate_zero, List.cons_append, List.nil_append, List.append_nil, List.getElem?_cons_succ, List.getElem?_cons_zero, List.set_cons_succ, List.set_cons_zero,
  Nat.reduceAdd, Nat.reduceSub, Nat.zero_add, decide_eq_true_eq, Bool.not_eq_true', decide_eq_false_iff_not, Bool.true_eq_false, Bool.false_eq_true, if_true, if_false, ite_true, ite_false, ite_self, reduceIte, Nat.reduceLeDiff, true_and, and_true, $[$es:term],*])
theorem draw_ok {row : List Int} {p lim : Int} {c : List Cell} {r : Nat} (hr : c[r]? = some (.lst (row.map .int))) (hne : row ≠ []) (hp : 0 ≤ p) (hl : 0 < lim) (hrow : ∀ x ∈ row, 0 ≤ x ∧ x < 2147483648) (hat : p < 1000000000) :
    ∃ v, (0 ≤ v ∧ v < lim) ∧ F__law_draw [.ref r, .int p, .int lim] ⟨c, none⟩ = .ok (.int v) ⟨c, none⟩ := by
  have gl : seqOf ⟨c, none⟩ (.ref r) = some (row.map .int) := by show getL ⟨c, none⟩ r = _; unfold getL; simp only [hr]
  have ln : ∀ (X : XP) (P : W → Sto → Prop), Ok (fLen [.ref r] ⟨c, none⟩) X P = P (.int (row.length : Nat)) ⟨c, none⟩ := fun X P => by
    rw [v_lenL (by intro z h; cases h) gl, List.length_map]
  have ixq : ∀ (j : Int) (h0 : 0 ≤ j) (h1 : j < row.length) (X : XP) (P : W → Sto → Prop), Ok (wIx (.ref r) (.int j) ⟨c, none⟩) X P = P (.int (row[j.toNat]'(by omega))) ⟨c, none⟩ := fun j h0 h1 X P => by
    have h2 : j.toNat < row.length := by omega
    refine v_ix gl ?_
    rw [atI_in h0 (by rw [List.length_map]; exact h1), List.getElem?_map, List.getElem?_eq_getElem h2]
    rfl
  have hpos : 0 < row.length := List.length_pos_iff.mpr hne
  unfold F__law_draw
  by_cases hlt : p < (row.length : Int)
  · have e := ixq p hp hlt
    refine run_int ?_
    exists ln, hlt, e, hl
    rw [k_trim rfl, List.take_length]
    exact ⟨_, rfl, ⟨Int.emod_nonneg _ (by omega), Int.emod_lt_of_pos _ hl⟩, rfl⟩
  · have h3 : 0 ≤ p % (row.length : Int) := Int.emod_nonneg _ (by omega)
    have h4 : p % (row.length : Int) < row.length := Int.emod_lt_of_pos _ (by omega)
    have e := ixq _ h3 h4
    have hx := hrow _ (List.getElem_mem (l := row) (n := (p % (row.length : Int)).toNat) (by omega))
    generalize row[(p % (row.length : Int)).toNat] = x at hx e
    have m1 : mulOk x 40692 = true := mulOk_lt (m := 40) (n := 40) (by omega) (by decide) (by decide) (by decide) (by decide)
    have m2 : mulOk p 7919 = true := mulOk_lt (m := 40) (n := 40) (by omega) (by decide) (by decide) (by decide) (by decide)
    have m3 : mulOk ((x * 40692 + p * 7919 + 3) % 2147483399) 48271 = true := mulOk_lt (m := 40) (n := 40) (by omega) (by decide) (by decide) (by decide) (by decide)
    have q0 : 0 < (row.length : Int) := by omega
    refine run_int ?_
    exists ln, hlt, e, hl, m1, m2, m3, q0, (by decide : (0 : Int) < 2147483399), (by decide : (0 : Int) < 2147483647)
    rw [k_trim rfl, List.take_length]
    exact ⟨_, rfl, ⟨Int.emod_nonneg _ (by omega), Int.emod_lt_of_pos _ hl⟩, rfl⟩
end LW

set_option Elab.async false
set_option linter.all false
set_option maxRecDepth 100000
set_option maxHeartbeats 4000000
namespace LW
open PySem RB
local macro_rules | `(tactic| exists $es,*) => `(tactic| simp (config := {decide := false, implicitDefEqProofs := false}) only [k_ok, k_exc, k_err, k_ite, k_iteS, k_nx, k_rt, k_loc, k_lit, k_nil, k_cons, k_tup, k_lst, k_bin, k_eB, k_eU, k_call, k_tru, k_not, k_and, k_or, k_if, k_eAnd, k_eOr, k_eNot, k_val, k_chain, k_sNil, k_sSeq, k_sSet, tgName, tgTup, tgCons, tgNil, Option.bind_some, k_sDrop, k_sRet, k_sRetN, k_sIf, k_sBreak, k_sCont, k_sFor, k_sRaise, k_sTry, k_defn, k_vSeq, k_rng1, k_comp,
  v_add, v_sub, v_mul, v_mod, v_div, v_lt, v_le, v_gt, v_ge, v_eq, v_ne, v_neg, v_int, v_min,
  List.map_cons, List.map_nil, List.length_cons, List.length_nil, List.replicate_succ, List.replicate_zero, List.cons_append, List.nil_append, List.append_nil, List.getElem?_cons_succ, List.getElem?_cons_zero, List.set_cons_succ, List.set_cons_zero,
  Nat.reduceAdd, Nat.reduceSub, Nat.zero_add, decide_eq_true_eq, Bool.not_eq_true', decide_eq_false_iff_not, Bool.true_eq_false, Bool.false_eq_true, if_true, if_false, ite_true, ite_false, ite_self, reduceIte, Nat.reduceLeDiff, true_and, and_true, $[$es:term],*])
/-- the store of a law: the script, the row, the spot, what came behind -/
abbrev S (ns : List W) (row : List Int) (p : Int) (rest : List Cell) : Sto := ⟨.scr ns :: .lst (row.map .int) :: .lst [.int p] :: rest, none⟩
structure RowOk (row : List Int) : Prop where
  ne : row ≠ []
  bd : ∀ x ∈ row, 0 ≤ x ∧ x < 2147483648
section
variable {ns : List W} {row : List Int} {p : Int} {rest g : List Cell} {x y : Cell}
theorem S_len : (S ns row p rest).c.length = rest.length + 1 + 1 + 1 := rfl
theorem S_push : (S ns row p rest).push x = S ns row p (rest ++ [x]) := rfl
theorem S_get : (S ns row p (rest ++ x :: g)).c[rest.length + 1 + 1 + 1]? = some x := by
  show (rest ++ x :: g)[rest.length]? = some x
  rw [List.getElem?_append_right (Nat.le_refl _), Nat.sub_self]; rfl
theorem S_put : (S ns row p (rest ++ x :: g)).put (rest.length + 1 + 1 + 1) y true = S ns row p (rest ++ y :: g) := by
  show (⟨Cell.scr ns :: .lst (row.map .int) :: .lst [.int p] :: ((rest ++ x :: g).set rest.length y), none⟩ : Sto) = _
  rw [List.set_append_right _ _ (Nat.le_refl _), Nat.sub_self]; rfl
theorem S_seq {ws : List W} : seqOf (S ns row p (rest ++ .lst ws :: g)) (.ref (rest.length + 1 + 1 + 1)) = some ws := by
  show getL _ _ = _
  unfold getL; rw [S_get]
theorem S_cut : (S ns row p (rest ++ g)).cut (rest.length + 1 + 1 + 1) = S ns row p rest := by
  show (⟨(Cell.scr ns :: .lst (row.map .int) :: .lst [.int p] :: (rest ++ g)).take (rest.length + 1 + 1 + 1), none⟩ : Sto) = _
  simp
theorem S_trim {w : W} {X : XP} {P : W → Sto → Prop} (h : W.pure w = true) : Ok (trim (rest.length + 1 + 1 + 1) w (S ns row p (rest ++ g))) X P = P w (S ns row p rest) := by
  rw [k_trim h]
  have := S_cut (ns := ns) (row := row) (p := p) (rest := rest) (g := g)
  unfold Sto.cut at this
  rw [this]
theorem S_trim0 {w : W} {X : XP} {P : W → Sto → Prop} (h : W.pure w = true) : Ok (trim (rest.length + 1 + 1 + 1) w (S ns row p rest)) X P = P w (S ns row p rest) := by
  have := S_trim (ns := ns) (row := row) (p := p) (rest := rest) (g := []) (X := X) (P := P) h
  rwa [List.append_nil] at this
theorem take_ok (R : RowOk row) (hp : 0 ≤ p) (hat : p < 100000000) {lim : Int} (hl : 0 < lim) :
    ∃ v, (0 ≤ v ∧ v < lim) ∧ F__law_take [.ref 1, .ref 2, .int lim] (S ns row p rest) = .ok (.int v) (S ns row (p + 1) rest) := by
  obtain ⟨v, hv, e⟩ := draw_ok (c := (S ns row (p + 1) rest).c) (r := 1) (row := row) (p := p) rfl R.ne hp hl R.bd (by omega)
  have e1 : p + 1 - 1 = p := by omega
  refine ⟨v, hv, run_eq ?_⟩
  unfold F__law_take
  have ix0 : ∀ (q : Int) (X : XP) (P : W → Sto → Prop), Ok (wIx (.ref 2) (.int 0) (S ns row q rest)) X P = P (.int q) (S ns row q rest) := fun q X P => v_ix (ws := [.int q]) rfl rfl
  have iw : ∀ (q : Int) (l : Lo) (D : Po4), OkS (sIxW (eLoc 1) (eLit (.int 0)) (eBin wAdd (eBin wIx (eLoc 1) (eLit (.int 0))) (eLit (.int 1))) (some (.ref 1) :: some (.ref 2) :: l) (S ns row q rest)) D = D.nx (some (.ref 1) :: some (.ref 2) :: l) (S ns row (q + 1) rest) := fun q l D => rfl
  have e' : ∀ (X : XP) (P : W → Sto → Prop), Ok (F__law_draw [.ref 1, .int p, .int lim] (S ns row (p + 1) rest)) X P = P (.int v) (S ns row (p + 1) rest) := fun X P => by rw [e]; rfl
  exists iw, ix0, e1, e', S_len
  rw [S_trim0 rfl]
  exact ⟨rfl, rfl⟩
end
end LW

set_option Elab.async false
set_option linter.all false
set_option maxRecDepth 100000
set_option maxHeartbeats 4000000
namespace LW
open PySem RB
local macro_rules | `(tactic| exists $es,*) => `(tactic| simp (config := {decide := false, implicitDefEqProofs := false}) only [k_ok, k_exc, k_err, k_ite, k_iteS, k_nx, k_rt, k_loc, k_lit, k_nil, k_cons, k_tup, k_lst, k_bin, k_eB, k_eU, k_call, k_tru, k_not, k_and, k_or, k_if, k_eAnd, k_eOr, k_eNot, k_val, k_chain, k_sNil, k_sSeq, k_sSet, tgName, tgTup, tgCons, tgNil, Option.bind_some, k_sDrop, k_sRet, k_sRetN, k_sIf, k_sBreak, k_sCont, k_sFor, k_sRaise, k_sTry, k_defn, k_vSeq, k_rng1, k_comp,
  v_add, v_sub, v_mul, v_mod, v_div, v_lt, v_le, v_gt, v_ge, v_eq, v_ne, v_neg, v_int, v_min,
  List.map_cons, List.map_nil, List.length_cons, List.length_nil, List.replicate_succ, List.replicate_zero, List.cons_append, List.nil_append, List.append_nil, List.getElem?_cons_succ, List.getElem?_cons_zero, List.set_cons_succ, List.set_cons_zero,
  Nat.reduceAdd, Nat.reduceSub, Nat.zero_add, decide_eq_true_eq, Bool.not_eq_true', decide_eq_false_iff_not, Bool.true_eq_false, Bool.false_eq_true, if_true, if_false, ite_true, ite_false, ite_self, reduceIte, Nat.reduceLeDiff, true_and, and_true, $[$es:term],*])
theorem run_ex {α : Type} {r : Res α} {Q : α → Sto → Prop} (h : Ok r (fun _ _ _ => False) Q) : ∃ a t, r = .ok a t ∧ Q a t := by
  cases r with
  | ok b t => exact ⟨b, t, rfl, h⟩
  | exc c p t => exact h.elim
  | err => exact h.elim
theorem kk {α : Type} {r : Res α} {a : α} {t : Sto} (h : r = .ok a t) (X : XP) (P : α → Sto → Prop) : Ok r X P = P a t := by rw [h]; rfl
section
variable {ns : List W} {row : List Int} {p : Int} {rest g : List Cell} {x y : Cell}
theorem takeK (R : RowOk row) (hp : 0 ≤ p) (hat : p < 100000000) (rest : List Cell) {lim : Int} (hl : 0 < lim) :
    ∃ v, (0 ≤ v ∧ v < lim) ∧ ∀ (X : XP) (P : W → Sto → Prop), Ok (F__law_take [.ref 1, .ref 2, .int lim] (S ns row p rest)) X P = P (.int v) (S ns row (p + 1) rest) := by
  obtain ⟨v, h, e⟩ := take_ok (ns := ns) (rest := rest) R hp hat hl
  exact ⟨v, h, kk e⟩
theorem up_len (lo : Int) : ∀ n : Nat, (upFrom lo n).length = n
  | 0 => rfl
  | n + 1 => by show (upFrom (lo + 1) n).length + 1 = n + 1; rw [up_len (lo + 1) n]
theorem up_get {n i : Nat} {w : W} (h : (upFrom 0 n)[i]? = some w) : i < n ∧ w = .int (i : Nat) := by
  rw [upFrom_get] at h
  split at h
  · rename_i q; cases h; exact ⟨q, by rw [Int.zero_add]⟩
  · cases h
def cutsOk (n : Nat) (cu : List Int) : Prop := cu = [] ∨ (cu.length = n ∧ ∀ x ∈ cu, 0 ≤ x ∧ x ≤ 90)
def absL (n : Nat) (f : Nat → Bool) : List W := ((List.range n).filter f).map fun k => .int (k : Nat)
theorem absL_pure (f : Nat → Bool) : ∀ l : List Nat, W.pures ((l.filter f).map fun k => W.int (k : Nat)) = true := by
  intro l
  generalize l.filter f = m
  induction m with
  | nil => rfl
  | cons a r ih => show (W.pure (W.int _) && W.pures _) = true; rw [ih]; rfl
theorem ints_pure : ∀ l : List Int, W.pures (l.map W.int) = true
  | [] => rfl
  | a :: r => by show (W.pure (W.int _) && W.pures _) = true; rw [ints_pure r]; rfl
theorem menu {u v : Int} (h0 : 0 ≤ v) (h1 : v < 91) (h2 : 0 ≤ u) (h3 : u < 5) : ∃ x, (0 ≤ x ∧ x ≤ 90) ∧ L2.atI [W.int 0, .int 10, .int 45, .int 90, .int v] u = some (.int x) := by
  have : u = 0 ∨ u = 1 ∨ u = 2 ∨ u = 3 ∨ u = 4 := by omega
  rcases this with rfl | rfl | rfl | rfl | rfl
  · exact ⟨0, by omega, rfl⟩
  · exact ⟨10, by omega, rfl⟩
  · exact ⟨45, by omega, rfl⟩
  · exact ⟨90, by omega, rfl⟩
  · exact ⟨v, by omega, rfl⟩
theorem race_ok (R : RowOk row) (hp : 0 ≤ p) (hat : p < 1000000) {most : Int} (h1 : 1 ≤ most) (h4 : most ≤ 4) :
    ∃ (n : Nat) (t : Bool) (f : Nat → Bool) (cu : List Int) (p' : Int), (1 ≤ n ∧ (n : Int) ≤ most) ∧ cutsOk n cu ∧ (p ≤ p' ∧ p' ≤ p + 20) ∧
      F__law_race [.ref 1, .ref 2, .int most] (S ns row p rest) = .ok (.tup [.int n, .bl t, .tup (absL n f), .tup (cu.map .int)]) (S ns row p' rest) := by
  suffices h : Ok (F__law_race [.ref 1, .ref 2, .int most] (S ns row p rest)) (fun _ _ _ => False) fun a st => ∃ (n : Nat) (t : Bool) (f : Nat → Bool) (cu : List Int) (p' : Int), (1 ≤ n ∧ (n : Int) ≤ most) ∧ cutsOk n cu ∧ (p ≤ p' ∧ p' ≤ p + 20) ∧ a = .tup [.int n, .bl t, .tup (absL n f), .tup (cu.map .int)] ∧ st = S ns row p' rest by
    obtain ⟨a, st, e, n, t, f, cu, p', q1, q2, q3, rfl, rfl⟩ := run_ex h
    exact ⟨n, t, f, cu, p', q1, q2, q3, e⟩
  obtain ⟨v1, hv1, e1⟩ := takeK (ns := ns) R hp (by omega) rest (lim := most) (by omega)
  obtain ⟨v2, hv2, e2⟩ := takeK (ns := ns) (p := p + 1) R (by omega) (by omega) rest (lim := 2) (by omega)
  obtain ⟨v3, hv3, e3⟩ := takeK (ns := ns) (p := p + 1 + 1) R (by omega) (by omega) rest (lim := 2) (by omega)
  obtain ⟨n, hn⟩ : ∃ n : Nat, (n : Int) = 1 + v1 := ⟨(1 + v1).toNat, by omega⟩
  have hnn : n ≤ 4 := by omega
  have hnn1 : 1 ≤ n := by omega
  unfold F__law_race
  generalize hT : sSeq (sSet (tgName 6) (eTup evNil)) _ = T
  have tail : ∀ (f : Nat → Bool) (p2 : Int) (g : List Cell) (z : Option W) (D : Po4), (p ≤ p2 ∧ p2 ≤ p + 7) → (∀ (cu : List Int) (p' : Int) (g : List Cell), cutsOk n cu → (p ≤ p' ∧ p' ≤ p + 20) → D.rt (.tup [.int n, .bl (decide (v2 = 0)), .tup (absL n f), .tup (cu.map .int)]) (S ns row p' (rest ++ g))) →
      OkS (T [some (.ref 1), some (.ref 2), some (.int most), some (.int n), some (.bl (decide (v2 = 0))), some (.tup (absL n f)), none, none] (S ns row p2 (rest ++ g))) D := by
    intro f p2 g z D hp2 hD
    subst hT
    obtain ⟨v4, hv4, e4⟩ := takeK (ns := ns) (p := p2) R (by omega) (by omega) (rest ++ g) (lim := 2) (by omega)
    have hnb : -1000000 ≤ (n : Int) ∧ (n : Int) ≤ 1000000 := by omega
    exists e4, (Nat.zero_le _ : ([] : List W).length ≤ 1000), hnb, Int.toNat_natCast
    by_cases h0 : v4 = 0
    · simp only [h0, if_true]
      obtain ⟨B, hB⟩ : ∃ B, B = rest ++ g := ⟨_, rfl⟩
      rw [← hB] at e4 ⊢
      refine cloop_fix (upFrom 0 n) (fun i acc st => ∃ (cu : List Int) (g2 : List Cell), acc = cu.map .int ∧ cu.length = i ∧ i ≤ 4 ∧ (∀ x ∈ cu, 0 ≤ x ∧ x ≤ 90) ∧ st = S ns row (p2 + 1 + 2 * (i : Int)) (B ++ .lst (cu.map .int) :: g2)) (fun _ _ _ _ => rfl) ?_ ?_ 1000000 0 [] _ (by rw [up_len]; omega) (Nat.zero_le _) ⟨[], [], rfl, rfl, by omega, by simp, by simp [S_push]⟩
      · rintro i w acc st hw ⟨cu, g2, rfl, hi, hi4, hcu, rfl⟩
        obtain ⟨hin, rfl⟩ := up_get hw
        refine ⟨_, rfl, ?_⟩
        obtain ⟨v5, hv5, e5⟩ := takeK (ns := ns) (p := p2 + 1 + 2 * (i : Int)) R (by omega) (by omega) (B ++ .lst (cu.map .int) :: g2) (lim := 91) (by omega)
        obtain ⟨v6, hv6, e6⟩ := takeK (ns := ns) (p := p2 + 1 + 2 * (i : Int) + 1) R (by omega) (by omega) ((B ++ .lst (cu.map .int) :: g2) ++ [.lst [.int 0, .int 10, .int 45, .int 90, .int v5]]) (lim := 5) (by omega)
        obtain ⟨u, hu, e7⟩ := menu hv5.1 hv5.2 hv6.1 hv6.2
        exists wipeL, e5, S_push, e6, bYes, (by decide : (5 : Nat) ≤ 1000)
        rw [v_ix S_seq e7]
        refine ⟨cu.map .int, ?_, by rw [List.length_map]; omega, cu ++ [u], g2 ++ [.lst [.int 0, .int 10, .int 45, .int 90, .int v5]], by simp, by simp [hi], by omega, ?_, ?_⟩
        · rw [List.append_assoc]; exact S_get
        · intro x hx
          rcases List.mem_append.mp hx with q | q
          · exact hcu x q
          · rw [List.mem_singleton.mp q]; exact hu
        · rw [List.append_assoc]
          have e : p2 + 1 + 2 * (i : Int) + 1 + 1 = p2 + 1 + 2 * ((i + 1 : Nat) : Int) := by push_cast; omega
          rw [e]
          refine (S_put (ns := ns) (row := row) (rest := B) (x := .lst (cu.map .int)) (g := g2 ++ [_])).trans ?_
          simp
      · rintro acc st ⟨cu, g2, rfl, hi, hi4, hcu, rfl⟩
        rw [v_tup S_seq, hB, List.append_assoc]
        rw [up_len] at hi ⊢
        exact hD cu _ _ (.inr ⟨hi, hcu⟩) (by omega)
    · simp only [h0, if_false]
      exact hD [] _ g (.inl rfl) (by omega)
  exists e1, e2, e3
  rw [← hn]
  have fin : ∀ (f : Nat → Bool) (cu : List Int) (p' : Int) (g : List Cell), cutsOk n cu → (p ≤ p' ∧ p' ≤ p + 20) → Ok (trim (rest.length + 1 + 1 + 1) (.tup [.int n, .bl (decide (v2 = 0)), .tup (absL n f), .tup (cu.map .int)]) (S ns row p' (rest ++ g))) (fun _ _ _ => False) fun a st => ∃ (n : Nat) (t : Bool) (f : Nat → Bool) (cu : List Int) (p' : Int), (1 ≤ n ∧ (n : Int) ≤ most) ∧ cutsOk n cu ∧ (p ≤ p' ∧ p' ≤ p + 20) ∧ a = .tup [.int n, .bl t, .tup (absL n f), .tup (cu.map .int)] ∧ st = S ns row p' rest := fun f cu p' g hc hq => by
    rw [S_trim (by show (true && (true && (W.pures (absL n f) && (W.pures (cu.map W.int) && true)))) = true; rw [ints_pure]; unfold absL; rw [absL_pure]; rfl)]
    exact ⟨n, _, f, cu, p', by omega, hc, hq, rfl, rfl⟩
  by_cases h0 : v3 = 0
  · rw [if_pos h0, if_pos (by omega), Int.toNat_natCast]
    refine cloop_fix (upFrom 0 n) (fun i acc st => ∃ f : Nat → Bool, acc = absL i f ∧ i ≤ 4 ∧ st = S ns row (p + 1 + 1 + 1 + (i : Int)) (rest ++ .lst (absL i f) :: [])) (fun _ _ _ _ => rfl) ?_ ?_ 1000000 0 [] _ (by rw [up_len]; omega) (Nat.zero_le _) ⟨fun _ => false, rfl, by omega, by simp [S_push]; rfl⟩
    · rintro i w acc st hw ⟨f, rfl, hi4, rfl⟩
      obtain ⟨hin, rfl⟩ := up_get hw
      refine ⟨_, rfl, ?_⟩
      obtain ⟨v5, hv5, e5⟩ := takeK (ns := ns) (p := p + 1 + 1 + 1 + (i : Int)) R (by omega) (by omega) (rest ++ .lst (absL i f) :: []) (lim := 4) (by omega)
      exists wipeL, e5
      have ex : ∀ b : Bool, absL (i + 1) (fun k => if k = i then b else f k) = absL i f ++ (if b = true then [.int (i : Nat)] else []) := fun b => by
        unfold absL
        rw [List.range_succ, List.filter_append, List.map_append]
        congr 1
        · congr 1
          refine List.filter_congr fun k hk => ?_
          rw [if_neg (by have := List.mem_range.mp hk; omega)]
        · cases b <;> simp
      by_cases h5 : v5 = 0
      · rw [if_pos h5]
        refine ⟨absL i f, S_get (ns := ns) (row := row) (p := p + 1 + 1 + 1 + (i : Int) + 1), by unfold absL; rw [List.length_map]; exact Nat.lt_of_le_of_lt (List.length_filter_le _ _) (by rw [List.length_range]; omega), fun k => if k = i then true else f k, (ex true).symm, by omega, ?_⟩
        have e : p + 1 + 1 + 1 + (i : Int) + 1 = p + 1 + 1 + 1 + ((i + 1 : Nat) : Int) := by push_cast; omega
        rw [e, ex true]
        exact S_put
      · rw [if_neg h5]
        refine ⟨fun k => if k = i then false else f k, ?_, by omega, ?_⟩
        · rw [ex false]; simp
        · have e : p + 1 + 1 + 1 + (i : Int) + 1 = p + 1 + 1 + 1 + ((i + 1 : Nat) : Int) := by push_cast; omega
          rw [e, ex false]; simp
    · rintro acc st ⟨f, rfl, hi4, rfl⟩
      rw [v_tup S_seq]
      rw [up_len] at hi4 ⊢
      exact tail f _ _ none _ (by omega) (fun cu p' g hc hq => fin f cu p' g hc hq)
  · rw [if_neg h0]
    have e0 : absL n (fun _ => false) = [] := by unfold absL; simp
    have := tail (fun _ => false) (p + 1 + 1 + 1) [] none
    rw [List.append_nil, e0] at this
    refine this _ (by omega) (fun cu p' g hc hq => ?_)
    have h2 := fin (fun _ => false) cu p' g hc hq
    rw [e0] at h2
    exact h2
end
end LW

set_option Elab.async false
set_option linter.all false
set_option maxRecDepth 100000
set_option maxHeartbeats 4000000
namespace LW
open PySem RB
local macro_rules | `(tactic| exists $es,*) => `(tactic| simp (config := {decide := false, implicitDefEqProofs := false}) only [k_ok, k_exc, k_err, k_ite, k_iteS, k_nx, k_rt, k_loc, k_lit, k_nil, k_cons, k_tup, k_lst, k_bin, k_eB, k_eU, k_call, k_tru, k_not, k_and, k_or, k_if, k_eAnd, k_eOr, k_eNot, k_val, k_chain, k_sNil, k_sSeq, k_sSet, tgName, tgTup, tgCons, tgNil, Option.bind_some, k_sDrop, k_sRet, k_sRetN, k_sIf, k_sBreak, k_sCont, k_sFor, k_sRaise, k_sTry, k_defn, k_vSeq, k_rng1, k_comp,
  v_add, v_sub, v_mul, v_mod, v_div, v_lt, v_le, v_gt, v_ge, v_eq, v_ne, v_neg, v_int, v_min,
  List.map_cons, List.map_nil, List.length_cons, List.length_nil, List.replicate_succ, List.replicate_zero, List.cons_append, List.nil_append, List.append_nil, List.getElem?_cons_succ, List.getElem?_cons_zero, List.set_cons_succ, List.set_cons_zero,
  Nat.reduceAdd, Nat.reduceSub, Nat.zero_add, decide_eq_true_eq, Bool.not_eq_true', decide_eq_false_iff_not, Bool.true_eq_false, Bool.false_eq_true, if_true, if_false, ite_true, ite_false, ite_self, reduceIte, Nat.reduceLeDiff, true_and, and_true, $[$es:term],*])
theorem k_eMt {F : W → List W → Sto → Res W} {o : Ev} {a : Evs} {l : Lo} {st : Sto} {X : XP} {P : W → Sto → Prop} : Ok (eMt F o a l st) X P = Ok (o l st) X fun x st1 => if isL st1 x = true then Ok (a l st1) X fun ws st2 => Ok (F x ws st2) X P else False := by
  unfold eMt; simp only [k_bind, k_ite, k_err]
/-- the store of the reading -/
abbrev N3 (c0 c2 : Cell) (row : List Int) : Sto := ⟨[c0, .lst (row.map .int), c2], none⟩
theorem app1 {c0 c2 : Cell} {row : List Int} {y : Int} {X : XP} {P : W → Sto → Prop} (h : row.length < 1000000) : Ok (fAppend (.ref 1) [.int y] (N3 c0 c2 row)) X P = P .non (N3 c0 c2 (row ++ [y])) := by
  show Ok (if (row.map W.int).length < 1000000 then _ else _) X P = _
  rw [if_pos (by rw [List.length_map]; exact h)]
  show P .non ⟨[c0, .lst (row.map .int ++ [.int y]), c2], none⟩ = P .non ⟨[c0, .lst ((row ++ [y]).map .int), c2], none⟩
  rw [List.map_append]; rfl
theorem isL1 {c0 c2 : Cell} {row : List Int} : isL (N3 c0 c2 row) (.ref 1) = true := rfl
theorem mul_big {a b : Int} (h : Builtin.Int.intBits a ≤ 1048576) (hb : b.natAbs.log2 < 1000) : mulOk a b = true := by
  unfold mulOk
  have : a.natAbs.log2 ≤ 1048576 := by
    unfold Builtin.Int.intBits at h
    split at h
    · rename_i e; rw [beq_iff_eq] at e; subst e; decide
    · omega
  exact decide_eq_true (by omega)
def Bd (row : List Int) : Prop := ∀ x ∈ row, 0 ≤ x ∧ x < 2147483648
theorem Bd.snoc {row : List Int} {y : Int} (h : Bd row) (h0 : 0 ≤ y) (h1 : y < 2147483648) : Bd (row ++ [y]) := fun x hx => by
  rcases List.mem_append.mp hx with q | q
  · exact h x q
  · rw [List.mem_singleton.mp q]; exact ⟨h0, h1⟩
theorem numbers_ok {ns : List Int} (hl : ns.length ≤ 63) (hb : ∀ z ∈ ns, Builtin.Int.intBits z ≤ 1048576) : ∃ row, RowOk row ∧ F__law_numbers [.ref 0] ⟨[.scr (ns.map .int)], none⟩ = .ok (.ref 1) ⟨[.scr (ns.map .int), .lst (row.map .int)], none⟩ := by
  suffices h : Ok (F__law_numbers [.ref 0] ⟨[.scr (ns.map .int)], none⟩) (fun _ _ _ => False) fun a st => ∃ row, RowOk row ∧ a = .ref 1 ∧ st = ⟨[.scr (ns.map .int), .lst (row.map .int)], none⟩ by
    obtain ⟨a, st, e, row, q1, rfl, rfl⟩ := run_ex h
    exact ⟨row, q1, e⟩
  unfold F__law_numbers
  have hsl : ∀ (X : XP) (P : W → Sto → Prop), Ok (eSl (eLoc 0) poNone (poSome (eLit (.int 63))) [some (.ref 0), some (.ref 1), none, none, none, none] ⟨[.scr (ns.map .int), .lst []], none⟩) X P = P (.ref 2) (N3 (.scr (ns.map .int)) (.lst (ns.map .int)) []) := fun X P => by
    show P (.ref 2) ⟨[.scr (ns.map .int), .lst [], .lst (cutW (ns.map W.int) none (some 63))], none⟩ = _
    have : cutW (ns.map W.int) none (some 63) = ns.map W.int := by
      unfold cutW
      have e1 : HT.sIx (ns.map W.int).length 0 none = 0 := rfl
      have e2 : HT.sIx (ns.map W.int).length (ns.map W.int).length (some 63) = (ns.map W.int).length := by
        rw [List.length_map]
        show min 63 ns.length = ns.length
        omega
      rw [e1, e2, List.drop_zero, Nat.sub_zero, List.take_length]
    rw [this]; rfl
  generalize hT : sSeq (sIf (bVal (eBin wEq (eB fLen (evCons (eLoc 1) evNil)) (eLit (.int 0)))) _ _) _ = T
  exists hsl, (Nat.zero_le _ : ([] : List W).length ≤ 1000), Sto.push, k_eMt
  show OkS (loopF (Src.live 2) _ _ _ _ _ _) _
  have p1 : ∀ (l : Lo) (st : Sto) (X : XP) (P : W → Sto → Prop), Ok (eBin wPow (eLit (.int 10)) (eLit (.int 18)) l st) X P = P (.int 1000000000000000000) st := fun l st X P => by
    rw [k_bin, k_lit, k_lit]
    have : wPow (.int 10) (.int 18) st = .ok (.int 1000000000000000000) st := by unfold wPow; rfl
    rw [this]; rfl
  refine loop_fix (ns.map .int) (fun i l st => ∃ (row : List Int) (a b c d : Option W), Bd row ∧ row.length ≤ 60 * i ∧ l = [some (.ref 0), some (.ref 1), a, b, c, d] ∧ st = N3 (.scr (ns.map .int)) (.lst (ns.map .int)) row) ?_ ?_ ?_ 1000000 0 _ _ (by rw [List.length_map]; omega) (Nat.zero_le _) ⟨[], _, _, _, _, (by intro x hx; cases hx), by simp, rfl, rfl⟩
  · rintro i l st ⟨row, a, b, c, d, _, _, _, rfl⟩
    rfl
  · rintro i w l st hw ⟨row, a, b, c, d, hB, hlen, rfl, rfl⟩
    refine ⟨_, rfl, ?_⟩
    have hi : i < ns.length := by have := (List.getElem?_eq_some_iff.mp hw).1; rwa [List.length_map] at this
    obtain ⟨z, hz, rfl⟩ : ∃ z, z ∈ ns ∧ w = .int z := by
      rw [List.getElem?_map] at hw
      cases e : ns[i]? with
      | none => rw [e] at hw; cases hw
      | some z => rw [e] at hw; cases hw; exact ⟨z, List.mem_of_getElem? e, rfl⟩
    exists p1, (by decide : (-1000000 : Int) ≤ 60), (by decide : (60 : Int) ≤ 1000000), (by decide : (-1000000 : Int) ≤ 4), (by decide : (4 : Int) ≤ 1000000)
    by_cases hz18 : 1000000000000000000 ≤ z
    · rw [if_pos hz18]
      refine loop_fix (upFrom 0 60) (fun j l st => ∃ (row : List Int) (left : Int) (c d : Option W), Bd row ∧ row.length ≤ 60 * i + j ∧ l = [some (.ref 0), some (.ref 1), some (.int z), some (.int left), c, d] ∧ st = N3 (.scr (ns.map .int)) (.lst (ns.map .int)) row) (fun _ _ _ _ => rfl) ?_ ?_ 1000000 0 _ _ (by rw [up_len]; omega) (Nat.zero_le _) ⟨row, z, c, d, hB, by omega, rfl, rfl⟩
      · rintro j w l st hw ⟨row, left, c, d, hB, hlen, rfl, rfl⟩
        obtain ⟨hj, rfl⟩ := up_get hw
        refine ⟨_, rfl, ?_⟩
        have hd : divOk 997 = true := by decide
        exists k_eMt, isL1, app1 (show row.length < 1000000 by omega), hd, (by decide : (0 : Int) < 997)
        by_cases h0 : left = 0
        · rw [if_pos h0]
          exact ⟨row, _, _, _, _, hB, by omega, rfl, rfl⟩
        · rw [if_neg h0]
          exact ⟨_, _, _, _, hB.snoc (Int.emod_nonneg _ (by decide)) (Int.lt_trans (Int.emod_lt_of_pos _ (by decide)) (by decide)), by rw [List.length_append]; simp; omega, rfl, rfl⟩
      · rintro l st ⟨row, left, c, d, hB, hlen, rfl, rfl⟩
        rw [up_len] at hlen
        exact ⟨row, _, _, _, _, hB, by omega, rfl, rfl⟩
    · rw [if_neg hz18]
      refine loop_fix (upFrom 0 4) (fun j l st => ∃ (row : List Int) (b c d : Option W), Bd row ∧ row.length ≤ 60 * i + j ∧ l = [some (.ref 0), some (.ref 1), some (.int z), b, c, d] ∧ st = N3 (.scr (ns.map .int)) (.lst (ns.map .int)) row) (fun _ _ _ _ => rfl) ?_ ?_ 1000000 0 _ _ (by rw [up_len]; omega) (Nat.zero_le _) ⟨row, b, c, d, hB, by omega, rfl, rfl⟩
      · rintro j w l st hw ⟨row, b, c, d, hB, hlen, rfl, rfl⟩
        obtain ⟨hj, rfl⟩ := up_get hw
        refine ⟨_, rfl, ?_⟩
        have m1 : mulOk z 48271 = true := mul_big (hb z hz) (by decide)
        have m2 : mulOk (j : Int) 69621 = true := mulOk_lt (m := 40) (n := 40) (by omega) (by decide) (by decide) (by decide) (by decide)
        have m3 : mulOk ((z * 48271 + (j : Int) * 69621 + 11) % 2147483647) 16807 = true := mulOk_lt (m := 40) (n := 40) (by omega) (by decide) (by decide) (by decide) (by decide)
        exists k_eMt, isL1, app1 (show row.length < 1000000 by omega), m1, m2, m3, (by decide : (0 : Int) < 2147483647), (by decide : (0 : Int) < 2147483629)
        exact ⟨_, _, _, _, hB.snoc (Int.emod_nonneg _ (by decide)) (Int.lt_trans (Int.emod_lt_of_pos _ (by decide)) (by decide)), by rw [List.length_append]; simp; omega, rfl, rfl⟩
      · rintro l st ⟨row, b, c, d, hB, hlen, rfl, rfl⟩
        rw [up_len] at hlen
        exact ⟨row, _, _, _, _, hB, by omega, rfl, rfl⟩
  · rintro l st ⟨row, a, b, c, d, hB, hlen, rfl, rfl⟩
    rw [List.length_map] at hlen
    subst hT
    have fl : ∀ (X : XP) (P : W → Sto → Prop), Ok (fLen [.ref 1] (N3 (.scr (ns.map .int)) (.lst (ns.map .int)) row)) X P = P (.int (row.length : Nat)) (N3 (.scr (ns.map .int)) (.lst (ns.map .int)) row) := fun X P => by
      rw [v_lenL (by intro z h; cases h) (ws := row.map .int) rfl, List.length_map]
    have tr : ∀ (row : List Int) (X : XP) (P : W → Sto → Prop), Ok (trim 1 (.ref 1) (N3 (.scr (ns.map .int)) (.lst (ns.map .int)) row)) X P = P (.ref 1) ⟨[.scr (ns.map .int), .lst (row.map .int)], none⟩ := fun row X P => by
      have : trim 1 (.ref 1) (N3 (.scr (ns.map .int)) (.lst (ns.map .int)) row) = (if W.pures (row.map W.int) = true then .ok (.ref 1) ⟨[.scr (ns.map .int), .lst (row.map .int)], none⟩ else .ok (.ref 1) (N3 (.scr (ns.map .int)) (.lst (ns.map .int)) row)) := rfl
      rw [this, if_pos (ints_pure row)]; rfl
    exists fl, k_eMt, isL1, app1 (show row.length < 1000000 by omega), tr
    by_cases h0 : (row.length : Int) = 0
    · rw [if_pos h0]
      exact ⟨row ++ [0], ⟨by simp, hB.snoc (by decide) (by decide)⟩, by first | rfl | exact ⟨rfl, rfl⟩⟩
    · rw [if_neg h0]
      exact ⟨row, ⟨by intro e; subst e; exact h0 rfl, hB⟩, by first | rfl | exact ⟨rfl, rfl⟩⟩
end LW

set_option Elab.async false
set_option linter.all false
set_option maxRecDepth 100000
set_option maxHeartbeats 4000000
namespace LW
open PySem RB
local macro_rules | `(tactic| exists $es,*) => `(tactic| simp (config := {decide := false, implicitDefEqProofs := false}) only [k_ok, k_exc, k_err, k_ite, k_iteS, k_nx, k_rt, k_loc, k_lit, k_nil, k_cons, k_tup, k_lst, k_bin, k_eB, k_eU, k_call, k_tru, k_not, k_and, k_or, k_if, k_eAnd, k_eOr, k_eNot, k_val, k_chain, k_sNil, k_sSeq, k_sSet, tgName, tgTup, tgCons, tgNil, Option.bind_some, k_sDrop, k_sRet, k_sRetN, k_sIf, k_sBreak, k_sCont, k_sFor, k_sRaise, k_sTry, k_defn, k_vSeq, k_rng1, k_comp,
  v_add, v_sub, v_mul, v_mod, v_div, v_lt, v_le, v_gt, v_ge, v_eq, v_ne, v_neg, v_int, v_min,
  List.map_cons, List.map_nil, List.length_cons, List.length_nil, List.replicate_succ, List.replicate_zero, List.cons_append, List.nil_append, List.append_nil, List.getElem?_cons_succ, List.getElem?_cons_zero, List.set_cons_succ, List.set_cons_zero,
  Nat.reduceAdd, Nat.reduceSub, Nat.zero_add, decide_eq_true_eq, Bool.not_eq_true', decide_eq_false_iff_not, Bool.true_eq_false, Bool.false_eq_true, if_true, if_false, ite_true, ite_false, ite_self, reduceIte, Nat.reduceLeDiff, true_and, and_true, $[$es:term],*])
section
variable {c g : List Cell} {x y : Cell} {X : XP} {P : W → Sto → Prop}
theorem k_isi {ans : Tn → Option Bool} {a : Ev} {l : Lo} {st : Sto} : Ok (eIsi ans a l st) X P = Ok (a l st) X fun w st1 => match (tnOf st1 w).bind ans with | some b => P (.bl b) st1 | none => False := by
  unfold eIsi; rw [k_bind]; congr 1; funext w st1; cases (tnOf st1 w).bind ans <;> rfl
theorem k_make {n : Nat} {F : List W → Sto → Res W} {a : Evs} {l : Lo} {st : Sto} : Ok (eMake n F [] a l st) X P = Ok (a l st) X fun ws st1 => Ok (F (.ref st1.c.length :: (ws ++ [])) (st1.push (.ins n []))) X fun v st2 => match v with | .non => P (.ref st1.c.length) st2 | _ => False := by
  unfold eMake; simp only [k_bind]; congr 1; funext w st1; congr 1; funext v st2; cases v <;> rfl
theorem c_get : (c ++ x :: g)[c.length]? = some x := by
  rw [List.getElem?_append_right (Nat.le_refl _), Nat.sub_self]; rfl
theorem c_put : (⟨c ++ x :: g, none⟩ : Sto).put c.length y true = ⟨c ++ y :: g, none⟩ := by
  show (⟨(c ++ x :: g).set c.length y, none⟩ : Sto) = _
  rw [List.set_append_right _ _ (Nat.le_refl _), Nat.sub_self]; rfl
theorem c_seq {ws : List W} : seqOf ⟨c ++ .lst ws :: g, none⟩ (.ref c.length) = some ws := by
  show getL _ _ = _
  unfold getL; rw [c_get]
theorem c_trim {w : W} (h : W.pure w = true) : Ok (trim c.length w ⟨c ++ g, none⟩) X P = P w ⟨c, none⟩ := by
  rw [k_trim h, List.take_left]
theorem c_trim0 {w : W} (h : W.pure w = true) : Ok (trim c.length w ⟨c, none⟩) X P = P w ⟨c, none⟩ := by
  rw [k_trim h, List.take_length]
theorem c_push : (⟨c, none⟩ : Sto).push x = ⟨c ++ x :: [], none⟩ := rfl
theorem v_all {st : Sto} {n : Nat} {ws : List W} {bs : List Bool} (h : getL st n = some ws) (h2 : bools ws = some bs) : Ok (fAll [.ref n] st) X P = P (.bl (bs.all id)) st := by
  unfold fAll; simp only [h, Option.bind_some, h2]; rfl
theorem bools_rep (n : Nat) : bools (List.replicate n (.bl true)) = some (List.replicate n true) := by
  induction n with
  | zero => rfl
  | succ n ih => show (bools (List.replicate n (.bl true))).map (true :: ·) = _; rw [ih]; rfl
theorem all_rep (n : Nat) : (List.replicate n true).all id = true := by
  induction n with
  | zero => rfl
  | succ n ih => show (true && (List.replicate n true).all id) = true; rw [ih]; rfl
def trues (n : Nat) : List W := List.replicate n (.bl true)
theorem trues_len (n : Nat) : (trues n).length = n := List.length_replicate ..
theorem trues_snoc {n : Nat} : trues n ++ [.bl true] = trues (n + 1) := by unfold trues; rw [List.replicate_succ']
theorem bools_trues (n : Nat) : bools (trues n) = some (List.replicate n true) := bools_rep n
theorem int_ok (z : Int) : F_is_integer [.int z] ⟨c, none⟩ = .ok (.bl true) ⟨c, none⟩ := by
  refine run_eq ?_
  unfold F_is_integer
  exists k_isi, tnOf, ans_int, ans_bool
  rw [c_trim0 rfl]; exact ⟨rfl, rfl⟩
theorem within_ok (z a b : Int) : F_is_integer_within [.int z, .int a, .int b] ⟨c, none⟩ = .ok (.bl (decide (a ≤ z) && decide (z ≤ b))) ⟨c, none⟩ := by
  refine run_eq ?_
  unfold F_is_integer_within
  exists kk (int_ok (c := c) z)
  by_cases h : a ≤ z
  · rw [if_pos h, c_trim0 rfl]; simp [h]
  · rw [if_neg h, c_trim0 rfl]; simp [h]
theorem seq_ok (ws : List W) : F_is_sequence [.tup ws] ⟨c, none⟩ = .ok (.bl true) ⟨c, none⟩ := by
  refine run_eq ?_
  unfold F_is_sequence
  exists k_isi, tnOf, ans_list_tuple
  rw [c_trim0 rfl]; exact ⟨rfl, rfl⟩
theorem runners_ok {ks : List Int} {n : Int} (h : ∀ k ∈ ks, 0 ≤ k ∧ k ≤ n - 1) (hl : ks.length < 1000) : F__are_runners [.tup (ks.map .int), .int n] ⟨c, none⟩ = .ok (.bl true) ⟨c, none⟩ := by
  refine run_eq ?_
  unfold F__are_runners
  exists kk (seq_ok (c := c) (ks.map .int))
  refine cloop_fix (ks.map .int) (fun i acc st => acc = trues i ∧ st = ⟨c ++ .lst (trues i) :: [], none⟩) (fun _ _ _ _ => rfl) ?_ ?_ 1000000 0 [] _ (by rw [List.length_map]; omega) (Nat.zero_le _) ⟨rfl, rfl⟩
  · rintro i w acc st hw ⟨rfl, rfl⟩
    obtain ⟨z, hz, rfl⟩ : ∃ z, z ∈ ks ∧ w = .int z := by
      rw [List.getElem?_map] at hw
      cases e : ks[i]? with
      | none => rw [e] at hw; cases hw
      | some z => rw [e] at hw; cases hw; exact ⟨z, List.mem_of_getElem? e, rfl⟩
    have hi := (List.getElem?_eq_some_iff.mp hw).1
    rw [List.length_map] at hi
    refine ⟨_, rfl, ?_⟩
    have hq := h z hz
    have q1 : (decide (0 ≤ z) && decide (z ≤ n - 1)) = true := by simp [hq.1, hq.2]
    exists wipeL, bYes, kk (within_ok (c := c ++ .lst (trues i) :: []) z 0 (n - 1)), q1
    refine ⟨trues i, c_get, by rw [trues_len]; omega, trues_snoc, ?_⟩
    rw [← trues_snoc]
    exact c_put
  · rintro acc st ⟨rfl, rfl⟩
    rw [v_all (show getL _ _ = _ from c_seq) (bools_trues _), all_rep, c_trim rfl]
    exact ⟨rfl, rfl⟩
theorem cuts_ok {ks : List Int} {n : Int} (h : ∀ k ∈ ks, 0 ≤ k ∧ k ≤ 90) (hl : ks.length < 1000) (hn : ks.length = 0 ∨ (ks.length : Int) = n) : F__are_cuts [.tup (ks.map .int), .int n] ⟨c, none⟩ = .ok (.bl true) ⟨c, none⟩ := by
  refine run_eq ?_
  unfold F__are_cuts
  have ln : ∀ (X : XP) (P : W → Sto → Prop), Ok (fLen [.tup (ks.map .int)] ⟨c, none⟩) X P = P (.int (ks.length : Nat)) ⟨c, none⟩ := fun X P => by
    rw [v_lenL (by intro z h; cases h) (ws := ks.map .int) rfl, List.length_map]
  have nin : ∀ (X : XP) (P : W → Sto → Prop), Ok (wNotIn (.int (ks.length : Nat)) (.tup [.int 0, .int n]) ⟨c, none⟩) X P = P (.bl false) ⟨c, none⟩ := fun X P => by
    have : wNotIn (.int (ks.length : Nat)) (.tup [.int 0, .int n]) ⟨c, none⟩ = .ok (.bl (!(((0 : Int) == (ks.length : Int)) || (((n == (ks.length : Int)) || false))))) ⟨c, none⟩ := by
      first | rfl | simp [wNotIn, datOf, seqOf, W.dats, W.dat, PyData.eqv]
    rw [this]
    show P (.bl _) _ = _
    congr 2
    rcases hn with q | q
    · simp [q]
    · simp [q]
  exists kk (seq_ok (c := c) (ks.map .int)), ln, (by decide : (2 : Nat) ≤ 1000), nin, truth, Bool.not_true
  refine cloop_fix (ks.map .int) (fun i acc st => acc = trues i ∧ st = ⟨c ++ .lst (trues i) :: [], none⟩) (fun _ _ _ _ => rfl) ?_ ?_ 1000000 0 [] _ (by rw [List.length_map]; omega) (Nat.zero_le _) ⟨rfl, rfl⟩
  · rintro i w acc st hw ⟨rfl, rfl⟩
    obtain ⟨z, hz, rfl⟩ : ∃ z, z ∈ ks ∧ w = .int z := by
      rw [List.getElem?_map] at hw
      cases e : ks[i]? with
      | none => rw [e] at hw; cases hw
      | some z => rw [e] at hw; cases hw; exact ⟨z, List.mem_of_getElem? e, rfl⟩
    have hi := (List.getElem?_eq_some_iff.mp hw).1
    rw [List.length_map] at hi
    refine ⟨_, rfl, ?_⟩
    have hq := h z hz
    have q1 : (decide (0 ≤ z) && decide (z ≤ 90)) = true := by simp [hq.1, hq.2]
    exists wipeL, bYes, kk (within_ok (c := c ++ .lst (trues i) :: []) z 0 90), q1
    refine ⟨trues i, c_get, by rw [trues_len]; omega, trues_snoc, ?_⟩
    rw [← trues_snoc]
    exact c_put
  · rintro acc st ⟨rfl, rfl⟩
    rw [v_all (show getL _ _ = _ from c_seq) (bools_trues _), all_rep, c_trim rfl]
    exact ⟨rfl, rfl⟩
theorem dats_ints (n : Nat) : ∀ ks : List Int, W.dats n (ks.map .int) = some (ks.map .int)
  | [] => by cases n <;> rfl
  | k :: r => by
    have h := dats_ints n r
    have h2 : W.dat n (.int k) = some (.int k) := by cases n <;> rfl
    show (match W.dat n (.int k), W.dats n (r.map .int) with | some d, some ds => some (d :: ds) | _, _ => none) = _
    rw [h, h2]; rfl
theorem eqv_ints : ∀ ks : List Int, PyData.eqvAll (ks.map .int) (ks.map .int) = true
  | [] => rfl
  | k :: r => by
    show (PyData.eqv (.int k) (.int k) && PyData.eqvAll (r.map .int) (r.map .int)) = true
    rw [eqv_ints r]; simp [PyData.eqv]
theorem ints_of : ∀ ks : List Int, intsOf (ks.map .int) = some ks
  | [] => rfl
  | k :: r => by show (intsOf (r.map .int)).map (k :: ·) = _; rw [ints_of r]; rfl
theorem asc_ok {ks : List Int} {n : Int} (h : ∀ k ∈ ks, 0 ≤ k ∧ k ≤ n - 1) (hl : ks.length < 60) (hs : L2.setI ks = ks) : F__is_ascending [.tup (ks.map .int), .int n] ⟨c, none⟩ = .ok (.bl true) ⟨c, none⟩ := by
  refine run_eq ?_
  unfold F__is_ascending
  have fl : ∀ (X : XP) (P : W → Sto → Prop), Ok (fList [.tup (ks.map .int)] ⟨c, none⟩) X P = P (.ref c.length) ⟨c ++ .lst (ks.map .int) :: [], none⟩ := fun X P => rfl
  have fs : ∀ (X : XP) (P : W → Sto → Prop), Ok (fSortSet (.tup (ks.map .int)) ⟨c ++ .lst (ks.map .int) :: [], none⟩) X P = P (.ref (c.length + 1)) ⟨(c ++ .lst (ks.map .int) :: []) ++ .lst (ks.map .int) :: [], none⟩ := fun X P => by
    unfold fSortSet
    have : (seqOf ⟨c ++ .lst (ks.map .int) :: [], none⟩ (.tup (ks.map .int))).bind intsOf = some ks := ints_of ks
    simp only [this, hl, if_true, hs, List.length_append, List.length_cons, List.length_nil, Nat.zero_add]
    rfl
  have eq : ∀ (X : XP) (P : W → Sto → Prop), Ok (wEq (.ref c.length) (.ref (c.length + 1)) ⟨(c ++ .lst (ks.map .int) :: []) ++ .lst (ks.map .int) :: [], none⟩) X P = P (.bl true) ⟨(c ++ .lst (ks.map .int) :: []) ++ .lst (ks.map .int) :: [], none⟩ := fun X P => by
    have g1 : getL ⟨(c ++ .lst (ks.map .int) :: []) ++ .lst (ks.map .int) :: [], none⟩ c.length = some (ks.map .int) := by
      unfold getL; rw [List.append_assoc]; exact by rw [show ([Cell.lst (ks.map W.int)] ++ [Cell.lst (ks.map W.int)]) = Cell.lst (ks.map W.int) :: [Cell.lst (ks.map W.int)] from rfl, c_get]
    have g2 : getL ⟨(c ++ .lst (ks.map .int) :: []) ++ .lst (ks.map .int) :: [], none⟩ (c.length + 1) = some (ks.map .int) := by
      have := c_get (c := c ++ [Cell.lst (ks.map W.int)]) (x := .lst (ks.map .int)) (g := [])
      rw [List.length_append] at this
      unfold getL; rw [show c.length + 1 = c.length + [Cell.lst (ks.map W.int)].length from rfl, this]
    have d1 : datOf ⟨(c ++ .lst (ks.map .int) :: []) ++ .lst (ks.map .int) :: [], none⟩ (.ref c.length) = some (.list (ks.map .int)) := by
      show (match getL _ _ with | some ws => (W.dats 8 ws).map PyData.list | none => none) = _
      rw [g1]; show (W.dats 8 (ks.map .int)).map PyData.list = _; rw [dats_ints]; rfl
    have d2 : datOf ⟨(c ++ .lst (ks.map .int) :: []) ++ .lst (ks.map .int) :: [], none⟩ (.ref (c.length + 1)) = some (.list (ks.map .int)) := by
      show (match getL _ _ with | some ws => (W.dats 8 ws).map PyData.list | none => none) = _
      rw [g2]; show (W.dats 8 (ks.map .int)).map PyData.list = _; rw [dats_ints]; rfl
    unfold wEq
    rw [d1, d2]
    show P (.bl (PyData.eqvAll (ks.map .int) (ks.map .int))) _ = _
    rw [eqv_ints]
  exists kk (runners_ok (c := c) h (by omega)), fl, fs, eq
  rw [List.append_assoc, c_trim rfl]
  exact ⟨rfl, rfl⟩
def absI (n : Nat) (f : Nat → Bool) : List Int := ((List.range n).filter f).map fun k : Nat => (k : Int)
theorem absL_eq (n : Nat) (f : Nat → Bool) : absL n f = (absI n f).map .int := by unfold absL absI; rw [List.map_map]; rfl
theorem absI_bd {n : Nat} {f : Nat → Bool} : ∀ k ∈ absI n f, 0 ≤ k ∧ k ≤ (n : Int) - 1 := fun k hk => by
  unfold absI at hk
  obtain ⟨j, hj, rfl⟩ := List.mem_map.mp hk
  have := List.mem_range.mp (List.mem_filter.mp hj).1
  omega
theorem absI_len {n : Nat} {f : Nat → Bool} : (absI n f).length ≤ n := by
  unfold absI; rw [List.length_map]
  have := List.length_filter_le f (List.range n)
  rwa [List.length_range] at this
theorem absI_set {n : Nat} (h : n ≤ 4) (f : Nat → Bool) : L2.setI (absI n f) = absI n f := by
  have : n = 0 ∨ n = 1 ∨ n = 2 ∨ n = 3 ∨ n = 4 := by omega
  have e : ∀ l : List Nat, ((l.filter f).map fun k : Nat => (k : Int)) = l.foldr (fun k r => if f k = true then (k : Int) :: r else r) [] := fun l => by
    induction l with
    | nil => rfl
    | cons a r ih => rw [List.filter_cons]; show _ = if f a = true then _ else _; split <;> simp [ih]
  unfold absI
  rw [e]
  rcases this with rfl | rfl | rfl | rfl | rfl
  · rfl
  · show L2.setI (if f 0 = true then _ else _) = if f 0 = true then _ else _
    cases f 0 <;> rfl
  · show L2.setI (if f 0 = true then (0 : Int) :: (if f 1 = true then _ else _) else (if f 1 = true then _ else _)) = if f 0 = true then (0 : Int) :: (if f 1 = true then _ else _) else (if f 1 = true then _ else _)
    cases f 0 <;> cases f 1 <;> rfl
  · change L2.setI (List.foldr _ [] [0, 1, 2]) = List.foldr _ [] [0, 1, 2]
    simp only [List.foldr]
    cases f 0 <;> cases f 1 <;> cases f 2 <;> rfl
  · change L2.setI (List.foldr _ [] [0, 1, 2, 3]) = List.foldr _ [] [0, 1, 2, 3]
    simp only [List.foldr]
    cases f 0 <;> cases f 1 <;> cases f 2 <;> cases f 3 <;> rfl
end
end LW

set_option Elab.async false
set_option linter.all false
set_option maxRecDepth 100000
set_option maxHeartbeats 4000000
namespace LW
open PySem RB
local macro_rules | `(tactic| exists $es,*) => `(tactic| simp (config := {decide := false, implicitDefEqProofs := false}) only [k_ok, k_exc, k_err, k_ite, k_iteS, k_nx, k_rt, k_loc, k_lit, k_nil, k_cons, k_tup, k_lst, k_bin, k_eB, k_eU, k_call, k_tru, k_not, k_and, k_or, k_if, k_eAnd, k_eOr, k_eNot, k_val, k_chain, k_sNil, k_sSeq, k_sSet, tgName, tgTup, tgCons, tgNil, Option.bind_some, k_sDrop, k_sRet, k_sRetN, k_sIf, k_sBreak, k_sCont, k_sFor, k_sRaise, k_sTry, k_defn, k_vSeq, k_rng1, k_comp,
  v_add, v_sub, v_mul, v_mod, v_div, v_lt, v_le, v_gt, v_ge, v_eq, v_ne, v_neg, v_int, v_min,
  List.map_cons, List.map_nil, List.length_cons, List.length_nil, List.replicate_succ, List.replicate_zero, List.cons_append, List.nil_append, List.append_nil, List.getElem?_cons_succ, List.getElem?_cons_zero, List.set_cons_succ, List.set_cons_zero,
  Nat.reduceAdd, Nat.reduceSub, Nat.zero_add, decide_eq_true_eq, Bool.not_eq_true', decide_eq_false_iff_not, Bool.true_eq_false, Bool.false_eq_true, if_true, if_false, ite_true, ite_false, ite_self, reduceIte, Nat.reduceLeDiff, true_and, and_true, $[$es:term],*])
def fldw (k : Nat) (f : Str) (v x : W) (l : Lo) (st2 : Sto) : RS := match x with
  | .ref n => match st2.c[n]? with
    | some (.ins k2 fs) => if k2 = k ∧ fs.length < 1000 then .nx l (st2.put n (.ins k2 (putW f v fs)) (W.low n v)) else .err
    | _ => .err
  | _ => .err
theorem k_sFldW {k : Nat} {f : Str} {o e : Ev} {l : Lo} {st : Sto} {D : Po4} : OkS (sFldW k f o e l st) D = Ok (e l st) (fun c p st => D.ex c p l st) fun v st1 => Ok (o l st1) (fun c p st => D.ex c p l st) fun x st2 => OkS (fldw k f v x l st2) D := by
  unfold sFldW; rw [k_xs]; congr 1; funext v st1; rw [k_xs]; rfl
section
variable {c : List Cell} {X : XP} {P : W → Sto → Prop} {D : Po4}
theorem v_fldw {f : Str} {v : W} {l : Lo} {fs : List (Str × W)} (h : fs.length < 1000) (hv : W.low c.length v = true) : OkS (fldw 0 f v (.ref c.length) l ⟨c ++ .ins 0 fs :: [], none⟩) D = D.nx l ⟨c ++ .ins 0 (putW f v fs) :: [], none⟩ := by
  unfold fldw
  simp only [c_get]
  rw [if_pos (by first | exact ⟨trivial, h⟩ | exact ⟨rfl, h⟩), hv, c_put]; rfl
def cutsW (n : Nat) (cu : List Int) : List W := if cu.length = 0 then List.replicate n (.int 0) else cu.map .int
def raceC (n : Nat) (t : Bool) (f : Nat → Bool) (cu : List Int) : Cell := .ins 0 [("_runners", .int n), ("_ties", .bl t), ("_absent", .tup (absL n f)), ("_cuts", .tup (cutsW n cu))]
theorem low_abs (m n : Nat) (f : Nat → Bool) : W.low m (.tup (absL n f)) = true := by rw [absL_eq]; exact ints_low m _
theorem low_cuts (m n : Nat) (cu : List Int) : W.low m (.tup (cutsW n cu)) = true := by
  unfold cutsW
  split
  · show W.lows m (List.replicate n (.int 0)) = true
    induction n with
    | zero => rfl
    | succ n ih => show (W.low m (.int 0) && W.lows m (List.replicate n (.int 0))) = true; rw [ih]; rfl
  · exact ints_low m _
theorem init_ok {n : Nat} {t : Bool} {f : Nat → Bool} {cu : List Int} (h1 : 1 ≤ n) (h4 : n ≤ 4) (hc : cutsOk n cu) :
    F_Race_init [.ref c.length, .int n, .bl t, .tup (absL n f), .tup (cu.map .int)] ⟨c ++ .ins 0 [] :: [], none⟩ = .ok .non ⟨c ++ raceC n t f cu :: [], none⟩ := by
  refine run_eq ?_
  unfold F_Race_init
  have w1 : ∀ (X : XP) (P : W → Sto → Prop), Ok (F_is_integer_within [.int n, .int 1, .int 4] ⟨c ++ .ins 0 [] :: [], none⟩) X P = P (.bl true) ⟨c ++ .ins 0 [] :: [], none⟩ := by
    have e : (decide ((1 : Int) ≤ (n : Int)) && decide ((n : Int) ≤ 4)) = true := by simp; omega
    have := within_ok (c := c ++ .ins 0 [] :: []) (n : Int) 1 4
    rw [e] at this
    exact kk this
  have w2 : ∀ (X : XP) (P : W → Sto → Prop), Ok (F__is_ascending [.tup (absL n f), .int n] ⟨c ++ .ins 0 [] :: [], none⟩) X P = P (.bl true) ⟨c ++ .ins 0 [] :: [], none⟩ := by
    rw [absL_eq]
    exact kk (asc_ok absI_bd (Nat.lt_of_le_of_lt absI_len (by omega)) (absI_set h4 f))
  have w3 : ∀ (X : XP) (P : W → Sto → Prop), Ok (F__are_cuts [.tup (cu.map .int), .int n] ⟨c ++ .ins 0 [] :: [], none⟩) X P = P (.bl true) ⟨c ++ .ins 0 [] :: [], none⟩ := by
    refine kk (cuts_ok ?_ ?_ ?_)
    · rcases hc with rfl | ⟨_, h⟩
      · intro k hk; cases hk
      · exact h
    · rcases hc with rfl | ⟨h, _⟩
      · decide
      · omega
    · rcases hc with rfl | ⟨h, _⟩
      · exact .inl rfl
      · exact .inr (by omega)
  have ln : ∀ (st : Sto) (X : XP) (P : W → Sto → Prop), Ok (fLen [.tup (cu.map .int)] st) X P = P (.int (cu.length : Nat)) st := fun st X P => by
    rw [v_lenL (by intro z h; cases h) (ws := cu.map .int) rfl, List.length_map]
  have tp : ∀ (ws : List W) (st : Sto) (X : XP) (P : W → Sto → Prop), Ok (fTuple [.tup ws] st) X P = P (.tup ws) st := fun ws st X P => v_tup rfl
  have ml : ∀ (st : Sto) (X : XP) (P : W → Sto → Prop), Ok (wMul (.tup [.int 0]) (.int n) st) X P = P (.tup (List.replicate n (.int 0))) st := fun st X P => by
    have : n = 1 ∨ n = 2 ∨ n = 3 ∨ n = 4 := by omega
    rcases this with rfl | rfl | rfl | rfl <;> rfl
  have tr : ∀ (b : Bool) (st : Sto), truth st (.bl b) = some b := fun _ _ => rfl
  exists w1, w2, w3, k_isi, tnOf, ans_bool, tr, Bool.not_true, k_sFldW
  rw [v_fldw (by decide) rfl]
  exists k_sFldW
  rw [v_fldw (by show 1 < 1000; decide) rfl]
  exists tp
  rw [v_fldw (by show 2 < 1000; decide) (low_abs _ _ _)]
  exists ln, tp, ml, (by decide : (1 : Nat) ≤ 1000)
  have fin : ∀ ws, ws = cutsW n cu → OkS (fldw 0 (Str.ofString "_cuts") (.tup ws) (.ref c.length) [some (.ref c.length), some (.int n), some (.bl t), some (.tup (absL n f)), some (.tup (cu.map .int))] ⟨c ++ .ins 0 (putW "_absent" (.tup (absL n f)) (putW "_ties" (.bl t) (putW "_runners" (.int n) []))) :: [], none⟩)
      { nx := fun _ st' => Ok (trim (c ++ [Cell.ins 0 []]).length W.non st') (fun _ _ _ => False) fun b t_1 => b = W.non ∧ t_1 = ⟨c ++ [raceC n t f cu], none⟩, rt := fun w st' => Ok (trim (c ++ [Cell.ins 0 []]).length w st') (fun _ _ _ => False) fun b t_1 => b = W.non ∧ t_1 = ⟨c ++ [raceC n t f cu], none⟩, bk := fun _ _ => False, ct := fun _ _ => False, ex := fun _ _ _ _ => False } := fun ws hw => by
    rw [v_fldw (by show 3 < 1000; decide) (by rw [hw]; exact low_cuts _ _ _)]
    dsimp only
    rw [k_trim rfl, show (c ++ [Cell.ins 0 []]).length = (c ++ Cell.ins 0 (putW "_cuts" (.tup ws) (putW "_absent" (.tup (absL n f)) (putW "_ties" (.bl t) (putW "_runners" (.int n) [])))) :: []).length by simp, List.take_length, hw]
    exact ⟨rfl, rfl⟩
  by_cases h0 : (0 : Int) < (cu.length : Nat)
  · rw [if_pos h0]
    refine fin _ ?_
    unfold cutsW; rw [if_neg (by omega)]
  · rw [if_neg h0]
    refine fin _ ?_
    unfold cutsW; rw [if_pos (by omega)]
theorem made_ok {n : Nat} {t : Bool} {f : Nat → Bool} {cu : List Int} (h1 : 1 ≤ n) (h4 : n ≤ 4) (hc : cutsOk n cu) :
    F__law_made [.tup [.int n, .bl t, .tup (absL n f), .tup (cu.map .int)]] ⟨c, none⟩ = .ok (.ref c.length) ⟨c ++ raceC n t f cu :: [], none⟩ := by
  refine run_eq ?_
  unfold F__law_made
  have i0 : ∀ (X : XP) (P : W → Sto → Prop), Ok (wIx (.tup [.int n, .bl t, .tup (absL n f), .tup (cu.map .int)]) (.int 0) ⟨c, none⟩) X P = P (.int n) ⟨c, none⟩ := fun X P => rfl
  have i1 : ∀ (X : XP) (P : W → Sto → Prop), Ok (wIx (.tup [.int n, .bl t, .tup (absL n f), .tup (cu.map .int)]) (.int 1) ⟨c, none⟩) X P = P (.bl t) ⟨c, none⟩ := fun X P => rfl
  have i2 : ∀ (X : XP) (P : W → Sto → Prop), Ok (wIx (.tup [.int n, .bl t, .tup (absL n f), .tup (cu.map .int)]) (.int 2) ⟨c, none⟩) X P = P (.tup (absL n f)) ⟨c, none⟩ := fun X P => rfl
  have i3 : ∀ (X : XP) (P : W → Sto → Prop), Ok (wIx (.tup [.int n, .bl t, .tup (absL n f), .tup (cu.map .int)]) (.int 3) ⟨c, none⟩) X P = P (.tup (cu.map .int)) ⟨c, none⟩ := fun X P => rfl
  exists k_make, i0, i1, i2, i3, c_push, kk (init_ok (c := c) (t := t) (f := f) h1 h4 hc)
  have : trim c.length (.ref c.length) ⟨c ++ [raceC n t f cu], none⟩ = .ok (.ref c.length) ⟨c ++ [raceC n t f cu], none⟩ := by
    unfold trim
    have e : (⟨c ++ [raceC n t f cu], none⟩ : Sto).c[c.length]? = some (raceC n t f cu) := c_get
    rw [if_pos (show Sto.may _ _ = true from rfl), if_neg (by intro q; cases q)]
    show (if c.length ≤ c.length then (match (c ++ [raceC n t f cu])[c.length]? with | some (.lst ws) => _ | _ => _) else _) = _
    have e : (c ++ [raceC n t f cu])[c.length]? = some (raceC n t f cu) := c_get
    rw [if_pos (Nat.le_refl _), e]
    rfl
  rw [this]
  exact ⟨rfl, rfl⟩
end
end LW

set_option Elab.async false
set_option linter.all false
set_option maxRecDepth 100000
set_option maxHeartbeats 4000000
namespace LW
open PySem PySem.W RB
/-- the outcomes that four runners may have, in their order -/
def allO : List (List (List Nat)) := [
  [[0]], [[0], [1]], [[0], [1], [2]], [[0], [1], [2], [3]], [[0], [1], [2, 3]], [[0], [1], [3]],
  [[0], [1], [3], [2]], [[0], [1, 2]], [[0], [1, 2], [3]], [[0], [1, 2, 3]], [[0], [1, 3]], [[0], [1, 3], [2]],
  [[0], [2]], [[0], [2], [1]], [[0], [2], [1], [3]], [[0], [2], [1, 3]], [[0], [2], [3]], [[0], [2], [3], [1]],
  [[0], [2, 3]], [[0], [2, 3], [1]], [[0], [3]], [[0], [3], [1]], [[0], [3], [1], [2]], [[0], [3], [1, 2]],
  [[0], [3], [2]], [[0], [3], [2], [1]], [[0, 1]], [[0, 1], [2]], [[0, 1], [2], [3]], [[0, 1], [2, 3]],
  [[0, 1], [3]], [[0, 1], [3], [2]], [[0, 1, 2]], [[0, 1, 2], [3]], [[0, 1, 2, 3]], [[0, 1, 3]],
  [[0, 1, 3], [2]], [[0, 2]], [[0, 2], [1]], [[0, 2], [1], [3]], [[0, 2], [1, 3]], [[0, 2], [3]],
  [[0, 2], [3], [1]], [[0, 2, 3]], [[0, 2, 3], [1]], [[0, 3]], [[0, 3], [1]], [[0, 3], [1], [2]],
  [[0, 3], [1, 2]], [[0, 3], [2]], [[0, 3], [2], [1]], [[1]], [[1], [0]], [[1], [0], [2]],
  [[1], [0], [2], [3]], [[1], [0], [2, 3]], [[1], [0], [3]], [[1], [0], [3], [2]], [[1], [0, 2]], [[1], [0, 2], [3]],
  [[1], [0, 2, 3]], [[1], [0, 3]], [[1], [0, 3], [2]], [[1], [2]], [[1], [2], [0]], [[1], [2], [0], [3]],
  [[1], [2], [0, 3]], [[1], [2], [3]], [[1], [2], [3], [0]], [[1], [2, 3]], [[1], [2, 3], [0]], [[1], [3]],
  [[1], [3], [0]], [[1], [3], [0], [2]], [[1], [3], [0, 2]], [[1], [3], [2]], [[1], [3], [2], [0]], [[1, 2]],
  [[1, 2], [0]], [[1, 2], [0], [3]], [[1, 2], [0, 3]], [[1, 2], [3]], [[1, 2], [3], [0]], [[1, 2, 3]],
  [[1, 2, 3], [0]], [[1, 3]], [[1, 3], [0]], [[1, 3], [0], [2]], [[1, 3], [0, 2]], [[1, 3], [2]],
  [[1, 3], [2], [0]], [[2]], [[2], [0]], [[2], [0], [1]], [[2], [0], [1], [3]], [[2], [0], [1, 3]],
  [[2], [0], [3]], [[2], [0], [3], [1]], [[2], [0, 1]], [[2], [0, 1], [3]], [[2], [0, 1, 3]], [[2], [0, 3]],
  [[2], [0, 3], [1]], [[2], [1]], [[2], [1], [0]], [[2], [1], [0], [3]], [[2], [1], [0, 3]], [[2], [1], [3]],
  [[2], [1], [3], [0]], [[2], [1, 3]], [[2], [1, 3], [0]], [[2], [3]], [[2], [3], [0]], [[2], [3], [0], [1]],
  [[2], [3], [0, 1]], [[2], [3], [1]], [[2], [3], [1], [0]], [[2, 3]], [[2, 3], [0]], [[2, 3], [0], [1]],
  [[2, 3], [0, 1]], [[2, 3], [1]], [[2, 3], [1], [0]], [[3]], [[3], [0]], [[3], [0], [1]],
  [[3], [0], [1], [2]], [[3], [0], [1, 2]], [[3], [0], [2]], [[3], [0], [2], [1]], [[3], [0, 1]], [[3], [0, 1], [2]],
  [[3], [0, 1, 2]], [[3], [0, 2]], [[3], [0, 2], [1]], [[3], [1]], [[3], [1], [0]], [[3], [1], [0], [2]],
  [[3], [1], [0, 2]], [[3], [1], [2]], [[3], [1], [2], [0]], [[3], [1, 2]], [[3], [1, 2], [0]], [[3], [2]],
  [[3], [2], [0]], [[3], [2], [0], [1]], [[3], [2], [0, 1]], [[3], [2], [1]], [[3], [2], [1], [0]]]
def grpW (g : List Nat) : W := .tup (g.map fun k => .int (k : Nat))
def outW (o : List (List Nat)) : W := .tup (o.map grpW)
/-- those of a race -/
def okO (n : Nat) (t : Bool) (f : Nat → Bool) (o : List (List Nat)) : Bool :=
  o.all (fun g => (t || g.length == 1) && g.all fun k => decide (k < n)) && (List.range n).all fun k => o.any (fun g => g.contains k) || f k
def outs (n : Nat) (t : Bool) (f : Nat → Bool) : List (List (List Nat)) := allO.filter (okO n t f)
def tb (m : Nat) (k : Nat) : Bool := m.testBit k
def raceW (n : Nat) (t : Bool) (f : Nat → Bool) (cu : List Int) : W := .tup [.int n, .bl t, .tup (absL n f), .tup (cu.map .int)]
end LW

set_option Elab.async false
set_option linter.all false
set_option maxRecDepth 100000
set_option maxHeartbeats 4000000
namespace LW
open PySem RB L2
local macro_rules | `(tactic| exists $es,*) => `(tactic| simp (config := {decide := false, implicitDefEqProofs := false}) only [k_ok, k_exc, k_err, k_ite, k_iteS, k_nx, k_rt, k_loc, k_lit, k_nil, k_cons, k_tup, k_lst, k_bin, k_eB, k_eU, k_call, k_tru, k_not, k_and, k_or, k_if, k_eAnd, k_eOr, k_eNot, k_val, k_chain, k_sNil, k_sSeq, k_sSet, tgName, tgTup, tgCons, tgNil, Option.bind_some, k_sDrop, k_sRet, k_sRetN, k_sIf, k_sBreak, k_sCont, k_sFor, k_sRaise, k_sTry, k_defn, k_vSeq, k_rng1, k_comp,
  v_add, v_sub, v_mul, v_mod, v_div, v_lt, v_le, v_gt, v_ge, v_eq, v_ne, v_neg, v_int, v_min,
  List.map_cons, List.map_nil, List.length_cons, List.length_nil, List.replicate_succ, List.replicate_zero, List.cons_append, List.nil_append, List.append_nil, List.getElem?_cons_succ, List.getElem?_cons_zero, List.set_cons_succ, List.set_cons_zero,
  Nat.reduceAdd, Nat.reduceSub, Nat.zero_add, decide_eq_true_eq, Bool.not_eq_true', decide_eq_false_iff_not, Bool.true_eq_false, Bool.false_eq_true, if_true, if_false, ite_true, ite_false, ite_self, reduceIte, Nat.reduceLeDiff, true_and, and_true, $[$es:term],*])
abbrev C (c : List Cell) : Sto := ⟨c, none⟩
abbrev nX : XP := fun _ _ _ => False
theorem ok_of {α : Type} {r : Res α} {a : α} {t : Sto} (h : r = .ok a t) {X : XP} {P : α → Sto → Prop} (p : P a t) : Ok r X P := by rw [h]; exact p
section
variable {c g : List Cell} {X : XP}
theorem cl_pure {ws : List W} {s : Src} (hat : ∀ us i, s.at (C (c ++ .lst us :: [])) i = some ws[i]?) {tg : Tg} {own : List Nat} {cond : Bv} {elt : Ev} {l : Lo} {P : Unit → Sto → Prop} (cb : W → Bool) (ev : W → W) (hw : ws.length < 1000000)
    (hs : ∀ w ∈ ws, ∃ l1, (∀ st, tg w (wipeL l own) st = some l1) ∧ (∀ us, cond l1 (C (c ++ .lst us :: [])) = .ok (cb w) (C (c ++ .lst us :: []))) ∧ (cb w = true → W.pure (ev w) = true ∧ ∀ us, elt l1 (C (c ++ .lst us :: [])) = .ok (ev w) (C (c ++ .lst us :: []))))
    (h : P () (C (c ++ .lst ((ws.filter cb).map ev) :: []))) : Ok (cLoop s tg own cond (cApp elt c.length) l 1000000 0 (C (c ++ .lst [] :: []))) X P := by
  refine cloop_fix ws (fun i acc st => acc = ((ws.take i).filter cb).map ev ∧ st = C (c ++ .lst acc :: [])) (fun i _ _ h => by rw [h.2]; exact hat _ i) ?_ ?_ 1000000 0 [] _ (by omega) (Nat.zero_le _) ⟨by simp, rfl⟩
  · rintro i w acc st hw2 ⟨rfl, rfl⟩
    have hi := (List.getElem?_eq_some_iff.mp hw2).1
    have tk : ws.take (i + 1) = ws.take i ++ [w] := by rw [List.take_succ, hw2]; rfl
    obtain ⟨l1, h1, h2, h3⟩ := hs w (List.mem_of_getElem? hw2)
    refine ⟨l1, h1 _, ok_of (h2 _) ?_⟩
    cases hb : cb w with
    | false =>
      rw [if_neg (by decide)]
      have : ((ws.take (i + 1)).filter cb).map ev = ((ws.take i).filter cb).map ev := by rw [tk, List.filter_append, List.filter_cons, if_neg (by rw [hb]; decide)]; simp
      exact ⟨this.symm, by first | rfl | rw [this]⟩
    | true =>
      rw [if_pos rfl]
      obtain ⟨h4, h5⟩ := h3 hb
      have e : ((ws.take (i + 1)).filter cb).map ev = ((ws.take i).filter cb).map ev ++ [ev w] := by rw [tk, List.filter_append, List.filter_cons, if_pos hb]; simp
      have hl : (((ws.take i).filter cb).map ev).length ≤ i := by
        rw [List.length_map]
        exact Nat.le_trans (List.length_filter_le _ _) (by rw [List.length_take]; exact Nat.min_le_left _ _)
      refine ok_of (h5 _) ⟨((ws.take i).filter cb).map ev, c_get, by omega, e.symm, ?_⟩
      rw [W.pure_low h4]
      exact c_put
  · rintro acc st ⟨rfl, rfl⟩
    rw [List.take_length]
    exact h
theorem cl_map {ws : List W} {s : Src} (hat : ∀ us i, s.at (C (c ++ .lst us :: [])) i = some ws[i]?) {tg : Tg} {own : List Nat} {elt : Ev} {l : Lo} {P : Unit → Sto → Prop} (ev : W → W) (hw : ws.length < 1000000)
    (hs : ∀ w ∈ ws, ∃ l1, (∀ st, tg w (wipeL l own) st = some l1) ∧ W.pure (ev w) = true ∧ ∀ us, elt l1 (C (c ++ .lst us :: [])) = .ok (ev w) (C (c ++ .lst us :: [])))
    (h : P () (C (c ++ .lst (ws.map ev) :: []))) : Ok (cLoop s tg own bYes (cApp elt c.length) l 1000000 0 (C (c ++ .lst [] :: []))) X P := by
  refine cl_pure hat (fun _ => true) ev hw (fun w hw => ?_) ?_
  · obtain ⟨l1, h1, h2, h3⟩ := hs w hw
    exact ⟨l1, h1, fun _ => rfl, fun _ => ⟨h2, h3⟩⟩
  · rw [List.filter_eq_self.mpr fun _ _ => rfl]; exact h
/-- the body of a loop that goes on -/
theorem cloop_any {ws : List W} {tg : Tg} {own : List Nat} {cond : Bv} {body : Rv} {s : Src} {l : Lo} {P : Unit → Sto → Prop} (Inv : Nat → Sto → Prop) (hat : ∀ i st, Inv i st → s.at st i = some ws[i]?)
    (step : ∀ i w st, ws[i]? = some w → Inv i st → ∃ l1, tg w (wipeL l own) st = some l1 ∧ cond l1 st = .ok true st ∧ Ok (body l1 st) nX fun _ st2 => Inv (i + 1) st2)
    (done : ∀ st, Inv ws.length st → P () st) : ∀ (f i : Nat) (st : Sto), ws.length < f + i → i ≤ ws.length → Inv i st → Ok (cLoop s tg own cond body l f i st) X P
  | 0, i, st, h, h2, _ => by omega
  | f + 1, i, st, h, h2, inv => by
    unfold cLoop
    rw [hat i st inv]
    cases e : ws[i]? with
    | none =>
      have : i = ws.length := by
        have := List.getElem?_eq_none_iff.mp e
        omega
      subst this
      exact done st inv
    | some w =>
      obtain ⟨l1, h3, h4, h5⟩ := step i w st e inv
      have hi : i < ws.length := (List.getElem?_eq_some_iff.mp e).1
      simp only [h3, h4, if_true]
      generalize body l1 st = r at h5 ⊢
      cases r with
      | exc c p st1 => exact h5.elim
      | err => exact h5.elim
      | ok y st2 => exact cloop_any Inv hat step done f (i + 1) st2 (by omega) (by omega) h5
theorem cl_app {elt : Ev} {l : Lo} {us : List W} {v : W} {P : Unit → Sto → Prop} (h : elt l (C (c ++ .lst us :: g)) = .ok v (C (c ++ .lst us :: g))) (hv : W.pure v = true) (hl : us.length < 1000000) (p : P () (C (c ++ .lst (us ++ [v]) :: g))) : Ok (cApp elt c.length l (C (c ++ .lst us :: g))) X P := by
  unfold cApp
  rw [h]
  dsimp only
  have e : (C (c ++ .lst us :: g)).c[c.length]? = some (.lst us) := c_get
  rw [e]
  dsimp only
  rw [if_pos hl, W.pure_low hv, c_put]
  exact p
/-- two fors over fixed items -/
theorem cl2_map {ws : List W} {s : Src} (hat : ∀ us i, s.at (C (c ++ .lst us :: [])) i = some ws[i]?) {tg tg1 : Tg} {own own1 : List Nat} {src1 : Sv} {elt : Ev} {l : Lo} {P : Unit → Sto → Prop} (ys : W → List W) (ev : W → W → W) (hz : (ws.flatMap fun w => (ys w).map (ev w)).length < 1000000) (hw : ws.length < 1000000) (hy : ∀ w ∈ ws, (ys w).length < 1000000)
    (hs : ∀ w ∈ ws, ∃ l1, (∀ st, tg w (wipeL l own) st = some l1) ∧ (∃ s1 : Src, (∀ us i, s1.at (C (c ++ .lst us :: [])) i = some (ys w)[i]?) ∧ ∀ us, src1 l1 (C (c ++ .lst us :: [])) = .ok s1 (C (c ++ .lst us :: []))) ∧
      ∀ y ∈ ys w, ∃ l2, (∀ st, tg1 y (wipeL l1 own1) st = some l2) ∧ W.pure (ev w y) = true ∧ ∀ us, elt l2 (C (c ++ .lst us :: [])) = .ok (ev w y) (C (c ++ .lst us :: [])))
    (h : P () (C (c ++ .lst (ws.flatMap fun w => (ys w).map (ev w)) :: []))) :
    Ok (cLoop s tg own bYes (fun l1 st2 => (src1 l1 st2).bind fun s1 st3 => cLoop s1 tg1 own1 bYes (cApp elt c.length) l1 1000000 0 st3) l 1000000 0 (C (c ++ .lst [] :: []))) X P := by
  refine cloop_any (ws := ws) (fun i st => st = C (c ++ .lst ((ws.take i).flatMap fun w => (ys w).map (ev w)) :: [])) (fun i _ h => by rw [h]; exact hat _ i) ?_ ?_ 1000000 0 _ (by omega) (Nat.zero_le _) (by simp)
  · rintro i w st hw2 rfl
    have hm := List.mem_of_getElem? hw2
    have hi := (List.getElem?_eq_some_iff.mp hw2).1
    have tk : ws.take (i + 1) = ws.take i ++ [w] := by rw [List.take_succ, hw2]; rfl
    obtain ⟨l1, h1, ⟨s1, hat1, h2⟩, h3⟩ := hs w hm
    refine ⟨l1, h1 _, rfl, ?_⟩
    rw [k_bind]
    refine ok_of (h2 _) ?_
    have cut : ∀ j, (((ws.take i).flatMap fun w => (ys w).map (ev w)) ++ ((ys w).take j).map (ev w)).length < 1000000 := fun j => by
      refine Nat.lt_of_le_of_lt ?_ hz
      have e : ws = ws.take i ++ w :: ws.drop (i + 1) := by
        have : ws[i] = w := by rw [List.getElem?_eq_getElem hi] at hw2; cases hw2; rfl
        rw [← this, List.getElem_cons_drop, List.take_append_drop]
      have e2 : (ws.flatMap fun w => (ys w).map (ev w)) = ((ws.take i).flatMap fun w => (ys w).map (ev w)) ++ ((ys w).map (ev w) ++ (ws.drop (i + 1)).flatMap fun w => (ys w).map (ev w)) := by
        conv => lhs; rw [e]
        rw [List.flatMap_append, List.flatMap_cons]
      rw [e2]
      simp only [List.length_append, List.length_map, List.length_take]
      omega
    refine cloop_any (ws := ys w) (fun j st => st = C (c ++ .lst (((ws.take i).flatMap fun w => (ys w).map (ev w)) ++ ((ys w).take j).map (ev w)) :: [])) (fun j _ h => by rw [h]; exact hat1 _ j) ?_ ?_ 1000000 0 _ (by have := hy w hm; omega) (Nat.zero_le _) (by simp)
    · rintro j y st hy2 rfl
      have tk2 : (ys w).take (j + 1) = (ys w).take j ++ [y] := by rw [List.take_succ, hy2]; rfl
      obtain ⟨l2, h4, h5, h6⟩ := h3 y (List.mem_of_getElem? hy2)
      refine ⟨l2, h4 _, rfl, cl_app (h6 _) h5 (cut j) ?_⟩
      rw [tk2, List.map_append, ← List.append_assoc]; rfl
    · rintro st rfl
      rw [List.take_length, tk, List.flatMap_append]
      simp
  · rintro st rfl
    rw [List.take_length]
    exact h
theorem k_comp2 {n : Nat} {own own1 : List Nat} {src src1 : Sv} {tg tg1 : Tg} {cond cond1 : Bv} {elt : Ev} {l : Lo} {st : Sto} {P : W → Sto → Prop} : Ok (eComp2 n own own1 src tg cond src1 tg1 cond1 elt l st) X P = Ok (src l st) X fun s st1 => Ok (cLoop s tg own cond (fun l1 st2 => (src1 l1 st2).bind fun s1 st3 => cLoop s1 tg1 own1 cond1 (cApp elt st1.c.length) l1 n 0 st3) l n 0 (st1.push (.lst []))) X fun _ st2 => P (.ref st1.c.length) st2 := by
  unfold eComp2; simp only [k_bind, k_ok]
/-- a list of earlier cells, walked -/
theorem live_at {k : Nat} {ws us : List W} (h : c[k]? = some (.lst ws)) (i : Nat) : (Src.live k).at (C (c ++ .lst us :: [])) i = some ws[i]? := by
  have hk := (List.getElem?_eq_some_iff.mp h).1
  have e : getL (C (c ++ .lst us :: [])) k = some ws := by
    unfold getL
    show (match (c ++ .lst us :: [])[k]? with | some (.lst ws) => some ws | some (.scr ws) => some ws | _ => none) = _
    rw [List.getElem?_append_left hk, h]
  show (getL (C (c ++ .lst us :: [])) k).map _ = _
  rw [e]; rfl
/-- a new list that is handed back -/
theorem c_trimL {ws : List W} {j : Nat} {P : W → Sto → Prop} (hj : g[j]? = some (.lst ws)) (hp : W.pures ws = true) : Ok (trim c.length (.ref (c.length + j)) (C (c ++ g))) X P = P (.ref c.length) (C (c ++ .lst ws :: [])) := by
  have e : (C (c ++ g)).c[c.length + j]? = some (.lst ws) := by
    show (c ++ g)[c.length + j]? = _
    rw [List.getElem?_append_right (Nat.le_add_right _ _), Nat.add_sub_cancel_left]; exact hj
  have : trim c.length (.ref (c.length + j)) (C (c ++ g)) = .ok (.ref c.length) (C (c ++ .lst ws :: [])) := by
    unfold trim
    rw [if_pos (show Sto.may _ _ = true from rfl), if_neg (by intro q; cases q)]
    dsimp only
    rw [if_pos (Nat.le_add_right _ _), e]
    dsimp only
    rw [if_pos hp]
    unfold Sto.cut Sto.push
    simp
  rw [this]; rfl
end
end LW

set_option Elab.async false
set_option linter.all false
set_option maxRecDepth 100000
set_option maxHeartbeats 4000000
namespace LW
open PySem RB L2
local macro_rules | `(tactic| exists $es,*) => `(tactic| simp (config := {decide := false, implicitDefEqProofs := false}) only [k_ok, k_exc, k_err, k_ite, k_iteS, k_nx, k_rt, k_loc, k_lit, k_nil, k_cons, k_tup, k_lst, k_bin, k_eB, k_eU, k_call, k_tru, k_not, k_and, k_or, k_if, k_eAnd, k_eOr, k_eNot, k_val, k_chain, k_sNil, k_sSeq, k_sSet, tgName, tgTup, tgCons, tgNil, Option.bind_some, k_sDrop, k_sRet, k_sRetN, k_sIf, k_sBreak, k_sCont, k_sFor, k_sRaise, k_sTry, k_defn, k_vSeq, k_rng1, k_comp,
  v_add, v_sub, v_mul, v_mod, v_div, v_lt, v_le, v_gt, v_ge, v_eq, v_ne, v_neg, v_int, v_min,
  List.map_cons, List.map_nil, List.length_cons, List.length_nil, List.replicate_succ, List.replicate_zero, List.cons_append, List.nil_append, List.append_nil, List.getElem?_cons_succ, List.getElem?_cons_zero, List.set_cons_succ, List.set_cons_zero,
  Nat.reduceAdd, Nat.reduceSub, Nat.zero_add, decide_eq_true_eq, Bool.not_eq_true', decide_eq_false_iff_not, Bool.true_eq_false, Bool.false_eq_true, if_true, if_false, ite_true, ite_false, ite_self, reduceIte, Nat.reduceLeDiff, true_and, and_true, $[$es:term],*])
/-- whole numbers from 0 on -/
def nW (l : List Nat) : List W := l.map fun k => .int (k : Nat)
theorem nW_pure : ∀ l : List Nat, W.pures (nW l) = true
  | [] => rfl
  | a :: r => by show (W.pure (W.int _) && W.pures (nW r)) = true; rw [nW_pure r]; rfl
theorem nW_len (l : List Nat) : (nW l).length = l.length := List.length_map ..
theorem grps_pure : ∀ l : List (List Nat), W.pures (l.map grpW) = true
  | [] => rfl
  | a :: r => by show (W.pure (grpW a) && W.pures (r.map grpW)) = true; rw [grps_pure r]; show (W.pures (nW a) && true) = true; rw [nW_pure]; rfl
theorem nW_ints (l : List Nat) : nW l = (l.map fun k : Nat => (k : Int)).map .int := by unfold nW; rw [List.map_map]; rfl
theorem nW_dats (n : Nat) (l : List Nat) : W.dats n (nW l) = some (l.map fun k : Nat => PyData.int (k : Int)) := by rw [nW_ints, dats_ints, List.map_map]; rfl
theorem nW_append (a b : List Nat) : nW (a ++ b) = nW a ++ nW b := List.map_append
theorem any_int (l : List Nat) (k : Nat) : ((l.map fun k : Nat => PyData.int (k : Int)).any fun z => PyData.eqv z (.int (k : Int))) = l.contains k := by
  induction l with
  | nil => rfl
  | cons x r ih =>
    rw [List.map_cons, List.any_cons, ih, List.contains_cons]
    congr 1
    show decide ((x : Int) = (k : Int)) = (k == x)
    by_cases h : x = k
    · subst h; simp
    · have h2 : ¬ ((x : Int) = (k : Int)) := by omega
      have h3 : ¬ (k = x) := fun e => h e.symm
      rw [decide_eq_false h2]; simp [h3]
theorem v_inN {x : W} {l : List Nat} {k : Nat} {st : Sto} (h : seqOf st x = some (nW l)) : wIn (.int (k : Nat)) x st = .ok (.bl (l.contains k)) st := by
  unfold wIn
  have e : (seqOf st x).bind (W.dats 8) = some (l.map fun k : Nat => PyData.int (k : Int)) := by rw [h]; exact nW_dats 8 l
  rw [e]
  show Res.ok (W.bl _) st = _
  rw [← any_int]
section
variable {c g : List Cell} {X : XP} {P : W → Sto → Prop}
theorem flat_nW (o : List (List Nat)) : (o.map grpW).flatMap (fun w => (match w with | .tup ws => ws | _ => []).map fun v => v) = nW o.flatten := by
  induction o with
  | nil => rfl
  | cons a r ih => rw [List.map_cons, List.flatMap_cons, ih, List.flatten_cons, nW_append]; show (nW a).map (fun v => v) ++ _ = _; rw [List.map_id']
theorem running_ok {o : List (List Nat)} (h : o.flatten.length < 1000) (h2 : o.length < 1000) (h3 : ∀ x ∈ o, x.length < 1000) : F_running_in [outW o] (C c) = .ok (.ref c.length) (C (c ++ .lst (nW o.flatten) :: [])) := by
  refine run_eq ?_
  unfold F_running_in outW
  exists k_comp2
  refine cl2_map (c := c) (ws := o.map grpW) (fun _ _ => rfl) (fun w => match w with | .tup ws => ws | _ => []) (fun _ v => v) (by rw [flat_nW, nW_len]; omega) (by rw [List.length_map]; omega) (fun w hw => ?_) (fun w hw => ?_) ?_
  · obtain ⟨x, hx, rfl⟩ := List.mem_map.mp hw
    have := h3 x hx
    show (nW x).length < _
    rw [nW_len]; omega
  · obtain ⟨x, hx, rfl⟩ := List.mem_map.mp hw
    refine ⟨_, fun _ => rfl, ⟨_, fun _ _ => rfl, fun us => rfl⟩, fun y hy => ⟨_, fun _ => rfl, ?_, fun us => rfl⟩⟩
    obtain ⟨k, _, rfl⟩ := List.mem_map.mp hy
    rfl
  · rw [flat_nW]
    have := c_trimL (c := c) (g := .lst (nW o.flatten) :: []) (j := 0) (P := fun b t => b = W.ref c.length ∧ t = C (c ++ .lst (nW o.flatten) :: [])) (X := nX) rfl (nW_pure _)
    refine (show _ = _ from this).mpr ⟨rfl, rfl⟩
/-- all the ways in which the items may stand -/
def permsL (g : List Nat) : List (List Nat) := (RPm.pmAll g.length).map fun ix => ix.map fun i => g.getD i 0
theorem pick_nW {g : List Nat} : ∀ ix : List Nat, (∀ i ∈ ix, i < g.length) → (ix.map fun i => (nW g).getD i .non) = nW (ix.map fun i => g.getD i 0)
  | [], _ => rfl
  | i :: r, h => by
    have hi := h i (List.mem_cons_self ..)
    rw [List.map_cons, pick_nW r fun k hk => h k (List.mem_cons_of_mem _ hk)]
    show (nW g).getD i .non :: _ = W.int ((g.getD i 0 : Nat) : Int) :: _
    congr 1
    unfold nW
    rw [List.getD_eq_getElem?_getD, List.getD_eq_getElem?_getD, List.getElem?_map, List.getElem?_eq_getElem hi]
    rfl
theorem perms_W {g : List Nat} (h : g.length ≤ 4) : (RPm.pmAll (nW g).length).map (pickW (nW g)) = (permsL g).map grpW := by
  rw [nW_len]
  unfold permsL
  rw [List.map_map]
  refine List.map_congr_left fun ix hx => ?_
  show W.tup _ = W.tup _
  rw [pick_nW ix (RPm.pm_in h ix hx).2]; rfl
theorem perms_le {g : List Nat} (h : g.length ≤ 4) : (permsL g).length ≤ 30 := by unfold permsL; rw [List.length_map]; exact RPm.pmAll_len h
/-- the ways that an outcome may be broken -/
def waysF (found : List (List Nat)) : List (List Nat) → List (List Nat)
  | [] => found
  | x :: r => waysF (found.flatMap fun a => (permsL x).map fun b => a ++ b) r
def waysL (o : List (List Nat)) : List (List Nat) := waysF [[]] o
theorem ways_flat (found ps : List (List Nat)) : ((found.map grpW).flatMap fun w => (ps.map grpW).map fun v => (match w, v with | .tup a, .tup b => W.tup (a ++ b) | _, _ => .non)) = (found.flatMap fun a => ps.map fun b => a ++ b).map grpW := by
  induction found with
  | nil => rfl
  | cons a r ih =>
    rw [List.map_cons, List.flatMap_cons, ih, List.flatMap_cons, List.map_append, List.map_map, List.map_map]
    congr 1
    refine List.map_congr_left fun b _ => ?_
    show W.tup (nW a ++ nW b) = W.tup (nW (a ++ b))
    rw [nW_append]
theorem ways_len {found ps : List (List Nat)} : (found.flatMap fun a => ps.map fun b => a ++ b).length = found.length * ps.length := by
  induction found with
  | nil => simp
  | cons a r ih => rw [List.flatMap_cons, List.length_append, ih, List.length_map, List.length_cons, Nat.succ_mul]; omega
theorem ways_le : ∀ (o found : List (List Nat)), (∀ x ∈ o, x.length ≤ 4) → (waysF found o).length ≤ found.length * 30 ^ o.length
  | [], found, _ => by simp [waysF]
  | x :: r, found, h => by
    have h1 := ways_le r (found.flatMap fun a => (permsL x).map fun b => a ++ b) fun y hy => h y (List.mem_cons_of_mem _ hy)
    have h2 := perms_le (h x (List.mem_cons_self ..))
    rw [ways_len] at h1
    show (waysF (found.flatMap fun a => (permsL x).map fun b => a ++ b) r).length ≤ _
    refine Nat.le_trans h1 ?_
    rw [List.length_cons, Nat.pow_succ, Nat.mul_comm (30 ^ r.length) 30, ← Nat.mul_assoc]
    exact Nat.mul_le_mul_right _ (Nat.mul_le_mul_left _ h2)
theorem waysF_snoc : ∀ (o found : List (List Nat)) (x : List Nat), waysF found (o ++ [x]) = (waysF found o).flatMap fun a => (permsL x).map fun b => a ++ b
  | [], _, _ => rfl
  | y :: r, found, x => by
    show waysF (found.flatMap fun a => (permsL y).map fun b => a ++ b) (r ++ [x]) = _
    rw [waysF_snoc r]; rfl
theorem ways_mem : ∀ (o found : List (List Nat)) (m : Nat), (∀ x ∈ o, x.length ≤ 4) → (∀ y ∈ found, y.length ≤ m) → ∀ y ∈ waysF found o, y.length ≤ m + 4 * o.length
  | [], found, m, _, hf, y, hy => by simpa using hf y hy
  | x :: r, found, m, h, hf, y, hy => by
    have := ways_mem r (found.flatMap fun a => (permsL x).map fun b => a ++ b) (m + 4) (fun z hz => h z (List.mem_cons_of_mem _ hz)) (fun z hz => by
      obtain ⟨a, ha, hz⟩ := List.mem_flatMap.mp hz
      obtain ⟨b, hb, rfl⟩ := List.mem_map.mp hz
      have h1 := hf a ha
      obtain ⟨ix, hix, rfl⟩ := List.mem_map.mp hb
      have h2 := (RPm.pm_in (h x (List.mem_cons_self ..)) ix hix).1
      rw [List.length_append, List.length_map]
      omega) y hy
    rw [List.length_cons]; omega
/-- a bet -/
inductive B where
  | top (k : Nat) (l : List Nat)
  | row (l : List Nat)
def B.named : B → List Nat
  | .top _ l => l
  | .row l => l
def B.toW : B → W
  | .top k l => .tup [.str "top", .int (k : Nat), .tup (nW l)]
  | .row l => .tup [.str "row", .tup (nW l)]
def B.right : B → List Nat → Bool
  | .top k l, way => l.all fun x => (way.take k).contains x
  | .row l, way => decide (way.take l.length = l)
theorem cut_to {α : Type} (xs : List α) (k : Nat) : cutW xs none (some (k : Int)) = xs.take k := by
  unfold cutW
  have e1 : HT.sIx xs.length 0 none = 0 := rfl
  rw [e1, List.drop_zero, Nat.sub_zero]
  have e2 : HT.sIx xs.length xs.length (some (k : Int)) = min k xs.length := by
    unfold HT.sIx
    first | (simp; omega) | simp | rfl
  rw [e2]
  by_cases h : k ≤ xs.length
  · rw [Nat.min_eq_left h]
  · rw [Nat.min_eq_right (by omega), List.take_length, List.take_of_length_le (by omega)]
theorem nW_take (l : List Nat) (k : Nat) : (nW l).take k = nW (l.take k) := List.map_take.symm
theorem bools_map (f : Nat → Bool) : ∀ l : List Nat, bools ((nW l).map fun w => (match w with | .int i => W.bl (f i.toNat) | _ => .non)) = some (l.map f)
  | [] => rfl
  | x :: r => by
    show (bools ((nW r).map _)).map (f ((x : Int).toNat) :: ·) = _
    rw [bools_map f r]; rfl
theorem all_map (f : Nat → Bool) (l : List Nat) : (l.map f).all id = l.all f := by rw [List.all_map]; rfl
/-- all of these are among those of x -/
theorem allin_ok {tg : Tg} {own : List Nat} {elt : Ev} {l : Lo} {ks seq : List Nat} {P : W → Sto → Prop} {s : Src} (hl : ks.length < 1000) (hs : s = .fix (nW ks))
    (h : ∀ k ∈ ks, ∃ l1, (∀ st, tg (.int (k : Nat)) (wipeL l own) st = some l1) ∧ ∀ us, elt l1 (C (c ++ .lst us :: [])) = .ok (.bl (seq.contains k)) (C (c ++ .lst us :: [])))
    (hP : P (.bl (ks.all fun k => seq.contains k)) (C (c ++ .lst (ks.map fun k => .bl (seq.contains k)) :: []))) :
    Ok (cLoop s tg own bYes (cApp elt c.length) l 1000000 0 (C (c ++ .lst [] :: []))) X fun _ st2 => Ok (fAll [.ref c.length] st2) X P := by
  subst hs
  have em : (nW ks).map (fun w => (match w with | .int i => W.bl (seq.contains i.toNat) | _ => .non)) = ks.map fun k => .bl (seq.contains k) := by
    unfold nW; rw [List.map_map]; rfl
  refine cl_map (ws := nW ks) (fun _ _ => rfl) (fun w => (match w with | .int i => W.bl (seq.contains i.toNat) | _ => .non)) (by rw [nW_len]; omega) (fun w hw => ?_) ?_
  · obtain ⟨k, hk, rfl⟩ := List.mem_map.mp hw
    obtain ⟨l1, h1, h2⟩ := h k hk
    exact ⟨l1, h1, rfl, h2⟩
  · rw [v_all (show getL _ _ = _ from c_seq) (bools_map (fun k => seq.contains k) ks), all_map, em]
    exact hP
theorem eq_nats (a b : List Nat) (st : Sto) : wEq (.tup (nW a)) (.tup (nW b)) st = .ok (.bl (decide (a = b))) st := by
  have d1 : ∀ l : List Nat, datOf st (.tup (nW l)) = some (.tuple (l.map fun k : Nat => PyData.int (k : Int))) := fun l => by
    show (W.dats 8 (nW l)).map PyData.tuple = _
    rw [nW_dats]; rfl
  have e : ∀ a b : List Nat, PyData.eqvAll (a.map fun k : Nat => PyData.int (k : Int)) (b.map fun k : Nat => PyData.int (k : Int)) = decide (a = b) := by
    intro a
    induction a with
    | nil => intro b; cases b <;> rfl
    | cons x r ih =>
      intro b
      cases b with
      | nil => rfl
      | cons y s =>
        show (decide ((x : Int) = (y : Int)) && PyData.eqvAll (r.map _) (s.map _)) = _
        rw [ih s]
        by_cases h1 : x = y
        · subst h1; by_cases h2 : r = s
          · subst h2; simp
          · simp [h2]
        · have h3 : ¬ ((x : Int) = (y : Int)) := by omega
          rw [decide_eq_false h3]; simp [h1]
  unfold wEq
  rw [d1, d1]
  show Res.ok (W.bl (PyData.eqvAll _ _)) st = _
  rw [e]
end
end LW

set_option Elab.async false
set_option linter.all false
set_option maxRecDepth 100000
set_option maxHeartbeats 4000000
namespace LW
open PySem PySem.W RB L2
local macro_rules | `(tactic| exists $es,*) => `(tactic| simp (config := {decide := false, implicitDefEqProofs := false}) only [k_ok, k_exc, k_err, k_ite, k_iteS, k_nx, k_rt, k_loc, k_lit, k_nil, k_cons, k_tup, k_lst, k_bin, k_eB, k_eU, k_call, k_tru, k_not, k_and, k_or, k_if, k_eAnd, k_eOr, k_eNot, k_val, k_chain, k_sNil, k_sSeq, k_sSet, tgName, tgTup, tgCons, tgNil, Option.bind_some, k_sDrop, k_sRet, k_sRetN, k_sIf, k_sBreak, k_sCont, k_sFor, k_sRaise, k_sTry, k_defn, k_vSeq, k_rng1, k_comp,
  v_add, v_sub, v_mul, v_mod, v_div, v_lt, v_le, v_gt, v_ge, v_eq, v_ne, v_neg, v_int, v_min,
  List.map_cons, List.map_nil, List.length_cons, List.length_nil, List.replicate_succ, List.replicate_zero, List.cons_append, List.nil_append, List.append_nil, List.getElem?_cons_succ, List.getElem?_cons_zero, List.set_cons_succ, List.set_cons_zero,
  Nat.reduceAdd, Nat.reduceSub, Nat.zero_add, decide_eq_true_eq, Bool.not_eq_true', decide_eq_false_iff_not, Bool.true_eq_false, Bool.false_eq_true, if_true, if_false, ite_true, ite_false, ite_self, reduceIte, Nat.reduceLeDiff, true_and, and_true, $[$es:term],*])
section
variable {c g : List Cell} {X : XP} {P : W → Sto → Prop} {q n : Nat} {t : Bool} {f : Nat → Bool} {cu : List Int}
def iL (l : List Nat) : List Int := l.map fun k : Nat => (k : Int)
theorem nW_iL (l : List Nat) : nW l = (iL l).map .int := nW_ints l
theorem iL_bd {l : List Nat} {n : Nat} (h : ∀ k ∈ l, k < n) : ∀ k ∈ iL l, 0 ≤ k ∧ k ≤ (n : Int) - 1 := fun k hk => by
  obtain ⟨j, hj, rfl⟩ := List.mem_map.mp hk
  have := h j hj
  omega
theorem iL_len (l : List Nat) : (iL l).length = l.length := List.length_map ..
theorem fld_run {fs : List (Str × W)} {nm : Str} {v : W} (hq : c[q]? = some (.ins 0 fs)) (hv : fs.lookup nm = some v) (hp : W.pure v = true) : defn 1 (sRet (eFld 0 nm (eLoc 0))) [.ref q] (C c) = .ok v (C c) := by
  refine run_eq ?_
  rw [k_defn, k_sRet]
  have e : eFld 0 nm (eLoc 0) ([W.ref q].map some ++ List.replicate (1 - [W.ref q].length) none) (C c) = .ok v (C c) := by
    unfold eFld eLoc
    show Res.bind (Res.ok (W.ref q) (C c)) _ = _
    show (match c[q]? with | some (.ins k fs) => _ | _ => _) = _
    rw [hq]
    dsimp only
    rw [hv]; rfl
  rw [kk e]
  show Ok (trim c.length v (C c)) _ _
  rw [c_trim0 hp]
  exact ⟨rfl, rfl⟩
theorem prop_ok {F : List W → Sto → Res W} {v : W} {l : Lo} (hq : c[q]? = some (raceC n t f cu)) (h : F [.ref q] (C c) = .ok v (C c)) : Ok (eProp 0 F (eLoc 0) (some (.ref q) :: l) (C c)) X P = P v (C c) := by
  unfold eProp eLoc
  show Ok (match c[q]? with | some (.ins k _) => if k = 0 then RB.noX (F [.ref q] (C c)) else .err | _ => .err) X P = _
  rw [hq]
  show Ok (if (0 : Nat) = 0 then RB.noX (F [.ref q] (C c)) else .err) X P = _
  rw [if_pos rfl, h]; rfl
theorem runners_at (hq : c[q]? = some (raceC n t f cu)) : F_Race_runners [.ref q] (C c) = .ok (.int n) (C c) := by
  unfold F_Race_runners
  exact fld_run hq (by rfl) rfl
theorem ties_at (hq : c[q]? = some (raceC n t f cu)) : F_Race_ties [.ref q] (C c) = .ok (.bl t) (C c) := by
  unfold F_Race_ties
  exact fld_run hq (by rfl) rfl
theorem absL_nW : absL n f = nW ((List.range n).filter f) := rfl
theorem absent_at (hq : c[q]? = some (raceC n t f cu)) : F_Race_absent [.ref q] (C c) = .ok (.tup (absL n f)) (C c) := by
  unfold F_Race_absent
  exact fld_run hq (by rfl) (by show W.pures (absL n f) = true; rw [absL_nW]; exact nW_pure _)
theorem need_ok (hq : c[q]? = some (raceC n t f cu)) (k : Int) : F_need_race [.ref q, .int k] (C c) = .ok .non (C c) := by
  refine run_eq ?_
  unfold F_need_race
  have e : tnOf (C c) (.ref q) = some (.cls 0) := by
    show (match c[q]? with | some (.lst _) => some Tn.lst | some (.scr _) => some Tn.lst | some (.ins c _) => some (.cls c) | none => none) = _
    rw [hq]; rfl
  exists k_isi, e, ans_Race, truth
  rw [c_trim0 rfl]
  exact ⟨rfl, rfl⟩
theorem get_app (hq : c[q]? = some x) : (c ++ g)[q]? = some x := by
  rw [List.getElem?_append_left (List.getElem?_eq_some_iff.mp hq).1]; exact hq
structure OutOk (o : List (List Nat)) : Prop where
  len : o.length ≤ 4
  grp : ∀ x ∈ o, x.length ≤ 4
  ways : 0 < (waysL o).length
structure OutV (n : Nat) (t : Bool) (f : Nat → Bool) (o : List (List Nat)) : Prop where
  ok : OutOk o
  ne : 1 ≤ o.length
  g1 : ∀ x ∈ o, 1 ≤ x.length ∧ (∀ k ∈ x, k < n) ∧ L2.setI (iL x) = iL x ∧ (t = true ∨ x.length = 1)
  st : (L2.setI (iL o.flatten)).length = o.flatten.length
  fl : o.flatten.length ≤ 16
  all : ∀ k, k < n → o.flatten.contains k = true ∨ f k = true
theorem group_ok {x : List Nat} (hq : c[q]? = some (raceC n t f cu)) (h1 : 1 ≤ x.length) (h2 : ∀ k ∈ x, k < n) (h3 : L2.setI (iL x) = iL x) (h4 : t = true ∨ x.length = 1) (h5 : x.length ≤ 4) : F__is_group [.ref q, grpW x] (C c) = .ok (.bl true) (C c) := by
  refine run_eq ?_
  unfold F__is_group
  have as := asc_ok (c := c) (ks := iL x) (n := n) (iL_bd h2) (by rw [iL_len]; omega) h3
  rw [← nW_iL] at as
  have l2 : ∀ (X : XP) (P : W → Sto → Prop), Ok (fLen [grpW x] (C c)) X P = P (.int (x.length : Nat)) (C c) := fun X P => by
    rw [v_lenL (by intro z h; cases h) (ws := nW x) rfl, nW_len]
  have ml : F__may_come_level [.int (x.length : Nat), .bl t] (C c) = .ok (.bl true) (C c) := by
    refine run_eq ?_
    unfold F__may_come_level
    exists truth
    by_cases e : ((x.length : Nat) : Int) = 1
    · rw [if_pos e, c_trim0 rfl]
      exact ⟨rfl, rfl⟩
    · rw [if_neg e]
      have ht : t = true := h4.resolve_right fun z => e (by omega)
      subst ht
      rw [if_pos rfl, decide_eq_true (by omega : (1 : Int) < (x.length : Nat)), c_trim0 rfl]
      exact ⟨rfl, rfl⟩
  have as' : F__is_ascending [grpW x, .int n] (C c) = .ok (.bl true) (C c) := as
  exists prop_ok hq (runners_at hq), kk as', l2, prop_ok hq (ties_at hq), kk ml
  rw [c_trim0 rfl]
  exact ⟨rfl, rfl⟩
theorem up_mem {n : Nat} {w : W} (h : w ∈ upFrom 0 n) : ∃ k, k < n ∧ w = .int (k : Nat) := by
  obtain ⟨i, hi⟩ := List.mem_iff_getElem?.mp h
  obtain ⟨h1, rfl⟩ := up_get hi
  exact ⟨i, h1, rfl⟩
theorem map_trues (ws : List W) : (ws.map fun _ => W.bl true) = trues ws.length := by
  unfold trues
  induction ws with
  | nil => rfl
  | cons w r ih => rw [List.map_cons, ih]; rfl
theorem isout_ok {o : List (List Nat)} (hn : n ≤ 4) (hq : c[q]? = some (raceC n t f cu)) (h : OutV n t f o) : F_is_outcome [.ref q, outW o] (C c) = .ok (.bl true) (C c) := by
  refine run_eq ?_
  unfold F_is_outcome
  have sq : F_is_sequence [outW o] (C c) = .ok (.bl true) (C c) := seq_ok _
  have l2 : ∀ (X : XP) (P : W → Sto → Prop), Ok (fLen [outW o] (C c)) X P = P (.int (o.length : Nat)) (C c) := fun X P => by
    rw [v_lenL (by intro z h; cases h) (ws := o.map grpW) rfl, List.length_map]
  have b1 : ¬ (((o.length : Nat) : Int) = 0) := by have := h.ne; omega
  have vs : ∀ (l : Lo) (X : XP) (P : Src → Sto → Prop), Ok (vSeq (eLoc 1) (some (.ref q) :: some (outW o) :: l) (C c)) X P = P (.fix (o.map grpW)) (C c) := fun l X P => rfl
  exists kk (need_ok (c := c) hq 1), kk sq, l2, truth, Bool.not_true, b1, vs
  refine cl_map (c := c) (ws := o.map grpW) (fun _ _ => rfl) (fun _ => .bl true) (by rw [List.length_map]; have := h.ok.len; omega) (fun w hw => ?_) ?_
  · obtain ⟨x, hx, rfl⟩ := List.mem_map.mp hw
    obtain ⟨y1, y2, y3, y4⟩ := h.g1 x hx
    refine ⟨_, fun _ => rfl, rfl, fun us => ?_⟩
    refine run_eq ?_
    exists wipeL, kk (group_ok (c := c ++ .lst us :: []) (get_app hq) y1 y2 y3 y4 (h.ok.grp x hx))
  · rw [map_trues]
    rw [v_all (show RB.getL _ _ = _ from c_seq) (bools_trues _), all_rep]
    have hr := running_ok (c := c ++ .lst (trues (o.map grpW).length) :: []) (o := o) (by have := h.fl; omega) (by have := h.ok.len; omega) fun x hx => by have := h.ok.grp x hx; omega
    show (if true = false then _ else _)
    rw [if_neg (by decide)]
    rw [kk hr]
    have hd1 : (c ++ [Cell.lst (trues (o.map grpW).length)])[q]? = some (raceC n t f cu) := get_app hq
    have hback : ∀ (g : List Cell) (P : W → Sto → Prop), Ok (trim c.length (.bl true) (C ((c ++ [Cell.lst (trues (o.map grpW).length)]) ++ g))) nX P = P (.bl true) (C c) := fun g P => by rw [List.append_assoc, c_trim rfl]
    generalize hd : c ++ [Cell.lst (trues (o.map grpW).length)] = d at hr hd1 hback ⊢
    have ls : ∀ (X : XP) (P : W → Sto → Prop), Ok (fLenSet (.ref d.length) (C (d ++ [Cell.lst (nW o.flatten)]))) X P = P (.int (o.flatten.length : Nat)) (C (d ++ [Cell.lst (nW o.flatten)])) := fun X P => by
      unfold fLenSet
      have e : (seqOf (C (d ++ [Cell.lst (nW o.flatten)])) (.ref d.length)).bind intsOf = some (iL o.flatten) := by
        rw [c_seq, nW_iL]; exact ints_of _
      rw [e]
      dsimp only
      rw [if_pos (by rw [iL_len]; have := h.fl; omega), h.st]; rfl
    rw [ls, v_lenL (by intro z h; cases h) (c_seq (ws := nW o.flatten)), nW_len, v_ne]
    dsimp only
    rw [decide_eq_true rfl, if_neg (by decide), prop_ok (get_app hd1) (runners_at (get_app hd1))]
    dsimp only
    rw [if_pos (by omega), Int.toNat_natCast]
    refine cl_map (c := d ++ [Cell.lst (nW o.flatten)]) (ws := upFrom 0 n) (fun _ _ => rfl) (fun _ => .bl true) (by rw [up_len]; omega) (fun w hw => ?_) ?_
    · obtain ⟨k, hk, rfl⟩ := up_mem hw
      refine ⟨_, fun _ => rfl, rfl, fun us => run_eq ?_⟩
      have i1 : wIn (.int (k : Nat)) (.ref d.length) (C ((d ++ [Cell.lst (nW o.flatten)]) ++ .lst us :: [])) = .ok (.bl (o.flatten.contains k)) (C ((d ++ [Cell.lst (nW o.flatten)]) ++ .lst us :: [])) := by
        refine v_inN ?_
        rw [List.append_assoc]; exact c_seq
      have i2 : wIn (.int (k : Nat)) (.tup (absL n f)) (C ((d ++ [Cell.lst (nW o.flatten)]) ++ .lst us :: [])) = .ok (.bl (((List.range n).filter f).contains k)) (C ((d ++ [Cell.lst (nW o.flatten)]) ++ .lst us :: [])) := v_inN (by rw [absL_nW]; rfl)
      have hq3 : ((d ++ [Cell.lst (nW o.flatten)]) ++ .lst us :: [])[q]? = some (raceC n t f cu) := get_app (get_app hd1)
      exists wipeL, kk i1, prop_ok hq3 (absent_at hq3), kk i2
      rcases h.all k hk with z | z
      · rw [if_pos z]; trivial
      · split
        · trivial
        · congr 1
          rw [List.contains_iff_mem]
          exact List.mem_filter.mpr ⟨List.mem_range.mpr hk, z⟩
    · rw [map_trues, v_all (show RB.getL _ _ = _ from c_seq) (bools_trues _), all_rep, List.append_assoc, hback]
      exact ⟨rfl, rfl⟩
end
end LW

set_option Elab.async false
set_option linter.all false
set_option maxRecDepth 100000
set_option maxHeartbeats 4000000
namespace LW
open PySem PySem.W RB L2
local macro_rules | `(tactic| exists $es,*) => `(tactic| simp (config := {decide := false, implicitDefEqProofs := false}) only [k_ok, k_exc, k_err, k_ite, k_iteS, k_nx, k_rt, k_loc, k_lit, k_nil, k_cons, k_tup, k_lst, k_bin, k_eB, k_eU, k_call, k_tru, k_not, k_and, k_or, k_if, k_eAnd, k_eOr, k_eNot, k_val, k_chain, k_sNil, k_sSeq, k_sSet, tgName, tgTup, tgCons, tgNil, Option.bind_some, k_sDrop, k_sRet, k_sRetN, k_sIf, k_sBreak, k_sCont, k_sFor, k_sRaise, k_sTry, k_defn, k_vSeq, k_rng1, k_comp,
  v_add, v_sub, v_mul, v_mod, v_div, v_lt, v_le, v_gt, v_ge, v_eq, v_ne, v_neg, v_int, v_min,
  List.map_cons, List.map_nil, List.length_cons, List.length_nil, List.replicate_succ, List.replicate_zero, List.cons_append, List.nil_append, List.append_nil, List.getElem?_cons_succ, List.getElem?_cons_zero, List.set_cons_succ, List.set_cons_zero,
  Nat.reduceAdd, Nat.reduceSub, Nat.zero_add, decide_eq_true_eq, Bool.not_eq_true', decide_eq_false_iff_not, Bool.true_eq_false, Bool.false_eq_true, if_true, if_false, ite_true, ite_false, ite_self, reduceIte, Nat.reduceLeDiff, true_and, and_true, $[$es:term],*])
theorem app_at {us : List W} {v : W} {c g : List Cell} (hv : W.pure v = true) (hl : us.length < 1000000) : fAppend (.ref c.length) [v] (C (c ++ .lst us :: g)) = .ok .non (C (c ++ .lst (us ++ [v]) :: g)) := by
  unfold fAppend
  have e : (C (c ++ .lst us :: g)).c[c.length]? = some (.lst us) := c_get
  dsimp only
  rw [e]
  dsimp only
  rw [if_pos hl, W.pure_low hv, c_put]
end LW

set_option Elab.async false
set_option linter.all false
set_option maxRecDepth 100000
set_option maxHeartbeats 4000000
namespace LW
open PySem PySem.W RB L2
local macro_rules | `(tactic| exists $es,*) => `(tactic| simp (config := {decide := false, implicitDefEqProofs := false}) only [k_ok, k_exc, k_err, k_ite, k_iteS, k_nx, k_rt, k_loc, k_lit, k_nil, k_cons, k_tup, k_lst, k_bin, k_eB, k_eU, k_call, k_tru, k_not, k_and, k_or, k_if, k_eAnd, k_eOr, k_eNot, k_val, k_chain, k_sNil, k_sSeq, k_sSet, tgName, tgTup, tgCons, tgNil, Option.bind_some, k_sDrop, k_sRet, k_sRetN, k_sIf, k_sBreak, k_sCont, k_sFor, k_sRaise, k_sTry, k_defn, k_vSeq, k_rng1, k_comp,
  v_add, v_sub, v_mul, v_mod, v_div, v_lt, v_le, v_gt, v_ge, v_eq, v_ne, v_neg, v_int, v_min,
  List.map_cons, List.map_nil, List.length_cons, List.length_nil, List.replicate_succ, List.replicate_zero, List.cons_append, List.nil_append, List.append_nil, List.getElem?_cons_succ, List.getElem?_cons_zero, List.set_cons_succ, List.set_cons_zero,
  Nat.reduceAdd, Nat.reduceSub, Nat.zero_add, decide_eq_true_eq, Bool.not_eq_true', decide_eq_false_iff_not, Bool.true_eq_false, Bool.false_eq_true, if_true, if_false, ite_true, ite_false, ite_self, reduceIte, Nat.reduceLeDiff, true_and, and_true, $[$es:term],*])
def lplus (a b : Nat × Nat) : Nat × Nat := ((a.1 * b.2 + b.1 * a.2) / Nat.gcd (a.1 * b.2 + b.1 * a.2) (a.2 * b.2), (a.2 * b.2) / Nat.gcd (a.1 * b.2 + b.1 * a.2) (a.2 * b.2))
def smallF (a : Nat × Nat) : Bool := decide (0 < a.2) && decide (a.1 ≤ 300) && decide (a.2 ≤ 300)
def okSum (a : Nat × Nat) : List (Nat × Nat) → Bool
  | [] => true
  | x :: r => smallF a && smallF x && okSum (lplus a x) r
theorem smallF_of {a : Nat × Nat} (h : smallF a = true) : 0 < a.2 ∧ a.1 ≤ 300 ∧ a.2 ≤ 300 := by
  unfold smallF at h
  simp only [Bool.and_eq_true, decide_eq_true_eq] at h
  exact ⟨h.1.1, h.1.2, h.2⟩
section
variable {c g : List Cell} {X : XP} {P : W → Sto → Prop}
theorem mulN {a b : Nat} (ha : a ≤ 1000000) (hb : b ≤ 1000000) : mulOk (a : Int) (b : Int) = true := mulOk_lt (m := 40) (n := 40) (by omega) (by omega) (by decide) (by decide) (by decide)
theorem v_addLs {a b : Nat} {st : Sto} {u v : List W} (h1 : st.c[a]? = some (.lst u)) (h2 : st.c[b]? = some (.lst v)) (h3 : u.length + v.length ≤ 1000000) : Ok (wAdd (.ref a) (.ref b) st) X P = P (.ref st.c.length) (st.push (.lst (u ++ v))) := by
  unfold wAdd
  simp only [h1, h2, h3, if_true]
  rfl
/-- the law's own subsets -/
def subsF (found : List (List Nat)) : List Nat → List (List Nat)
  | [] => found
  | x :: r => subsF (found ++ found.map fun a => a ++ [x]) r
theorem subs_snoc : ∀ (o : List Nat) (found : List (List Nat)) (x : Nat), subsF found (o ++ [x]) = subsF found o ++ (subsF found o).map fun a => a ++ [x]
  | [], _, _ => rfl
  | y :: r, found, x => by
    show subsF (found ++ found.map fun a => a ++ [y]) (r ++ [x]) = _
    rw [subs_snoc r]; rfl
theorem subs_le : ∀ (o : List Nat) (found : List (List Nat)), (subsF found o).length = found.length * 2 ^ o.length
  | [], found => by simp [subsF]
  | x :: r, found => by
    show (subsF (found ++ found.map fun a => a ++ [x]) r).length = _
    rw [subs_le r, List.length_append, List.length_map, List.length_cons, Nat.pow_succ, Nat.mul_comm (2 ^ r.length) 2, ← Nat.mul_assoc]
    congr 1
    omega
theorem subs_len : ∀ (o : List Nat) (found : List (List Nat)) (m : Nat), (∀ y ∈ found, y.length ≤ m) → ∀ y ∈ subsF found o, y.length ≤ m + o.length
  | [], _, _, hf, y, hy => by simpa using hf y hy
  | x :: r, found, m, hf, y, hy => by
    have := subs_len r (found ++ found.map fun a => a ++ [x]) (m + 1) (fun z hz => by
      rcases List.mem_append.mp hz with hz | hz
      · exact Nat.le_succ_of_le (hf z hz)
      · obtain ⟨a, ha, rfl⟩ := List.mem_map.mp hz
        have := hf a ha
        rw [List.length_append, List.length_singleton]; omega) y hy
    rw [List.length_cons]; omega
theorem snoc_map (x : Nat) (l : List (List Nat)) : (l.map grpW).map (fun w => (match w with | .tup ws => W.tup (ws ++ [.int (x : Nat)]) | _ => .non)) = (l.map fun a => a ++ [x]).map grpW := by
  rw [List.map_map, List.map_map]
  refine List.map_congr_left fun a _ => ?_
  show W.tup (nW a ++ [.int (x : Nat)]) = W.tup (nW (a ++ [x]))
  rw [nW_append]; rfl
theorem subsets_ok {l : List Nat} (h4 : l.length ≤ 4) : F__law_subsets [.tup (nW l)] (C c) = .ok (.ref c.length) (C (c ++ .lst ((subsF [[]] l).map grpW) :: [])) := by
  refine run_eq ?_
  unfold F__law_subsets
  exists (by decide : (1 : Nat) ≤ 1000)
  refine loop_fix (nW l) (fun i l1 st => ∃ (g : List Cell) (j : Nat) (a e : Option W), g[j]? = some (.lst ((subsF [[]] (l.take i)).map grpW)) ∧ l1 = [some (.tup (nW l)), some (.ref (c.length + j)), a, e] ∧ st = C (c ++ g)) (fun _ _ _ _ => rfl) ?_ ?_ 1000000 0 _ _ (by rw [nW_len]; omega) (Nat.zero_le _) ⟨[.lst [.tup []]], 0, none, none, rfl, rfl, rfl⟩
  · rintro i w l1 st hw ⟨g, j, a, e, hg, rfl, rfl⟩
    obtain ⟨x, hx, rfl⟩ : ∃ x, l[i]? = some x ∧ w = .int (x : Nat) := by
      unfold nW at hw
      rw [List.getElem?_map] at hw
      cases ex : l[i]? with
      | none => rw [ex] at hw; cases hw
      | some x => rw [ex] at hw; cases hw; exact ⟨x, rfl, rfl⟩
    refine ⟨_, rfl, ?_⟩
    have tk : l.take (i + 1) = l.take i ++ [x] := by rw [List.take_succ, hx]; rfl
    have gj : (c ++ g)[c.length + j]? = some (.lst ((subsF [[]] (l.take i)).map grpW)) := by rw [List.getElem?_append_right (Nat.le_add_right _ _), Nat.add_sub_cancel_left]; exact hg
    have gl1 : RB.getL (C (c ++ g)) (c.length + j) = some ((subsF [[]] (l.take i)).map grpW) := by unfold RB.getL; rw [gj]
    have cap : (subsF [[]] (l.take i)).length ≤ 16 := by
      rw [subs_le]
      have : 2 ^ (l.take i).length ≤ 2 ^ 4 := Nat.pow_le_pow_right (by decide) (by rw [List.length_take]; omega)
      simpa using this
    have lens : ∀ y ∈ subsF [[]] (l.take i), y.length ≤ 4 := fun y hy => by
      have q := subs_len (l.take i) [[]] 0 (fun z hz => by rw [List.mem_singleton.mp hz]; exact Nat.le_refl _) y hy
      rw [List.length_take] at q
      omega
    exists gl1
    refine cl_map (c := c ++ g) (ws := (subsF [[]] (l.take i)).map grpW) (fun us i => live_at gj i) (fun w => (match w with | .tup ws => W.tup (ws ++ [.int (x : Nat)]) | _ => .non)) (by rw [List.length_map]; omega) (fun w hw => ?_) ?_
    · obtain ⟨y, hy, rfl⟩ := List.mem_map.mp hw
      have ad : ∀ (st : Sto) (X : XP) (P : W → Sto → Prop), Ok (wAdd (grpW y) (.tup [.int (x : Nat)]) st) X P = P (.tup (nW y ++ [.int (x : Nat)])) st := fun st X P => by
        show Ok (if (nW y).length + ([W.int (x : Nat)] : List W).length ≤ 1000000 then Res.ok (W.tup (nW y ++ [W.int (x : Nat)])) st else .err) X P = _
        rw [if_pos (by have := lens y hy; rw [nW_len, List.length_singleton]; omega)]; rfl
      refine ⟨_, fun _ => rfl, ?_, fun us => run_eq ?_⟩
      · show W.pures (nW y ++ nW [x]) = true
        rw [← nW_append]; exact nW_pure _
      · exists wipeL, ad
        first | rfl | trivial | exact ⟨rfl, rfl⟩
    · rw [snoc_map]
      have gj2 : (C ((c ++ g) ++ .lst (((subsF [[]] (l.take i)).map fun a => a ++ [x]).map grpW) :: [])).c[c.length + j]? = some (.lst ((subsF [[]] (l.take i)).map grpW)) := get_app gj
      have gp : (C ((c ++ g) ++ .lst (((subsF [[]] (l.take i)).map fun a => a ++ [x]).map grpW) :: [])).c[(c ++ g).length]? = some (.lst (((subsF [[]] (l.take i)).map fun a => a ++ [x]).map grpW)) := c_get
      rw [v_addLs gj2 gp (by simp only [List.length_map]; omega)]
      refine ⟨g ++ [.lst (((subsF [[]] (l.take i)).map fun a => a ++ [x]).map grpW), .lst ((subsF [[]] (l.take (i + 1))).map grpW)], g.length + 1, some (.int (x : Nat)), e, ?_, ?_, ?_⟩
      · rw [List.getElem?_append_right (by omega)]
        have : g.length + 1 - g.length = 1 := by omega
        rw [this]; rfl
      · have : (C ((c ++ g) ++ .lst (((subsF [[]] (l.take i)).map fun a => a ++ [x]).map grpW) :: [])).c.length = c.length + (g.length + 1) := by
          show ((c ++ g) ++ _).length = _
          rw [List.length_append, List.length_append, Nat.add_assoc]; rfl
        rw [this]
      · rw [tk, subs_snoc, List.map_append]
        simp [Sto.push]
  · rintro l1 st ⟨g, j, a, e, hg, rfl, rfl⟩
    rw [nW_len, List.take_length] at hg
    exists k_loc
    have := c_trimL (c := c) (g := g) (j := j) (P := fun b t => b = W.ref c.length ∧ t = C (c ++ .lst ((subsF [[]] l).map grpW) :: [])) (X := nX) hg (grps_pure _)
    exact (show _ = _ from this).mpr ⟨rfl, rfl⟩
/-- sorted, of what is asked -/
def sortRes (us : List W) : Option (List W) := match W.dats 8 us with
  | some ds => if (ds.all nestB || ds.all intB) = true then some ((sortB (dataLe false Prod.snd) (us.zip ds)).map Prod.fst) else none
  | none => none
theorem v_sort {us ws : List W} {j : Nat} {st : Sto} (h : RB.getL st j = some us) (h2 : sortRes us = some ws) : Ok (fSortD [.ref j] st) X P = P (.ref st.c.length) (st.push (.lst ws)) := by
  unfold sortRes at h2
  unfold fSortD
  dsimp only
  rw [h]
  dsimp only
  cases hd : W.dats 8 us with
  | none => rw [hd] at h2; cases h2
  | some ds =>
    rw [hd] at h2
    dsimp only at h2 ⊢
    split at h2
    · rename_i q
      cases h2
      rw [if_pos q]; rfl
    · cases h2
end
end LW

set_option Elab.async false
set_option linter.all false
set_option maxRecDepth 100000
set_option maxHeartbeats 4000000
namespace LW
open PySem PySem.W RB L2
local macro_rules | `(tactic| exists $es,*) => `(tactic| simp (config := {decide := false, implicitDefEqProofs := false}) only [k_ok, k_exc, k_err, k_ite, k_iteS, k_nx, k_rt, k_loc, k_lit, k_nil, k_cons, k_tup, k_lst, k_bin, k_eB, k_eU, k_call, k_tru, k_not, k_and, k_or, k_if, k_eAnd, k_eOr, k_eNot, k_val, k_chain, k_sNil, k_sSeq, k_sSet, tgName, tgTup, tgCons, tgNil, Option.bind_some, k_sDrop, k_sRet, k_sRetN, k_sIf, k_sBreak, k_sCont, k_sFor, k_sRaise, k_sTry, k_defn, k_vSeq, k_rng1, k_comp,
  v_add, v_sub, v_mul, v_mod, v_div, v_lt, v_le, v_gt, v_ge, v_eq, v_ne, v_neg, v_int, v_min,
  List.map_cons, List.map_nil, List.length_cons, List.length_nil, List.replicate_succ, List.replicate_zero, List.cons_append, List.nil_append, List.append_nil, List.getElem?_cons_succ, List.getElem?_cons_zero, List.set_cons_succ, List.set_cons_zero,
  Nat.reduceAdd, Nat.reduceSub, Nat.zero_add, decide_eq_true_eq, Bool.not_eq_true', decide_eq_false_iff_not, Bool.true_eq_false, Bool.false_eq_true, if_true, if_false, ite_true, ite_false, ite_self, reduceIte, Nat.reduceLeDiff, true_and, and_true, $[$es:term],*])
/-- the law's own orders -/
def ordL : Nat → List Nat → Bool → List (List (List Nat))
  | 0, _, _ => []
  | d + 1, l, t => if l.isEmpty then [[]] else (subsF [[]] l).flatMap fun gr => if (decide (0 < gr.length) && (t || decide (gr.length = 1))) = true then (ordL d (l.filter fun y => !(gr.contains y)) t).map fun r => gr :: r else []
theorem outs_pure : ∀ l : List (List (List Nat)), W.pures (l.map outW) = true
  | [] => rfl
  | a :: r => by show (W.pure (outW a) && W.pures (r.map outW)) = true; rw [outs_pure r]; show (W.pures (a.map grpW) && true) = true; rw [grps_pure]; rfl
theorem subs_in : ∀ (l : List Nat) (found : List (List Nat)), ∀ y ∈ subsF found l, ∀ k ∈ y, k ∈ l ∨ ∃ z ∈ found, k ∈ z
  | [], found, y, hy, k, hk => .inr ⟨y, hy, hk⟩
  | x :: r, found, y, hy, k, hk => by
    rcases subs_in r (found ++ found.map fun a => a ++ [x]) y hy k hk with h | ⟨z, hz, h⟩
    · exact .inl (List.mem_cons_of_mem _ h)
    · rcases List.mem_append.mp hz with hz | hz
      · exact .inr ⟨z, hz, h⟩
      · obtain ⟨a, ha, rfl⟩ := List.mem_map.mp hz
        rcases List.mem_append.mp h with h | h
        · exact .inr ⟨a, ha, h⟩
        · rw [List.mem_singleton.mp h]; exact .inl (List.mem_cons_self ..)
theorem subs_sub {l gr : List Nat} (h : gr ∈ subsF [[]] l) {k : Nat} (hk : k ∈ gr) : k ∈ l := by
  rcases subs_in l [[]] gr h k hk with h | ⟨z, hz, h⟩
  · exact h
  · rw [List.mem_singleton.mp hz] at h; cases h
theorem ord_len : ∀ (d : Nat) (l : List Nat) (t : Bool), ∀ o ∈ ordL d l t, o.length ≤ d
  | 0, _, _, _, h => by cases h
  | d + 1, l, t, o, h => by
    unfold ordL at h
    split at h
    · rw [List.mem_singleton.mp h]; exact Nat.zero_le _
    · obtain ⟨gr, _, h⟩ := List.mem_flatMap.mp h
      split at h
      · obtain ⟨r, hr, rfl⟩ := List.mem_map.mp h
        have := ord_len d _ t r hr
        rw [List.length_cons]; omega
      · cases h
theorem filt_lt {l gr : List Nat} (h : gr ∈ subsF [[]] l) (h0 : 0 < gr.length) : (l.filter fun y => !(gr.contains y)).length < l.length := by
  obtain ⟨k, r, rfl⟩ : ∃ k r, gr = k :: r := by
    cases gr with
    | nil => cases h0
    | cons k r => exact ⟨k, r, rfl⟩
  exact List.length_filter_lt_length_iff_exists.mpr ⟨k, subs_sub h (List.mem_cons_self ..), by simp⟩
theorem sub16 {l : List Nat} (h : l.length ≤ 4) : (subsF [[]] l).length ≤ 16 := by
  rw [subs_le]
  have : 2 ^ l.length ≤ 2 ^ 4 := Nat.pow_le_pow_right (by decide) h
  simpa using this
def ordF (d : Nat) (l : List Nat) (t : Bool) (gr : List Nat) : List (List (List Nat)) := if (decide (0 < gr.length) && (t || decide (gr.length = 1))) = true then (ordL d (l.filter fun y => !(gr.contains y)) t).map fun r => gr :: r else []
theorem ord_eq {d : Nat} {l : List Nat} {t : Bool} (h : l.isEmpty = false) : ordL (d + 1) l t = (subsF [[]] l).flatMap (ordF d l t) := by
  show (if l.isEmpty then [[]] else _) = _
  rw [h]; rfl
theorem ordF_le {d m : Nat} {l : List Nat} {t : Bool} (h : ∀ gr ∈ subsF [[]] l, 0 < gr.length → (ordL d (l.filter fun y => !(gr.contains y)) t).length ≤ m) : ∀ ms : List (List Nat), (∀ gr ∈ ms, gr ∈ subsF [[]] l) → (ms.flatMap (ordF d l t)).length ≤ ms.length * m
  | [], _ => Nat.zero_le _
  | gr :: r, hm => by
    have ih := ordF_le h r fun x hx => hm x (List.mem_cons_of_mem _ hx)
    rw [List.flatMap_cons, List.length_append, List.length_cons, Nat.succ_mul]
    have : (ordF d l t gr).length ≤ m := by
      unfold ordF
      split
      · rename_i q
        simp only [Bool.and_eq_true, decide_eq_true_eq] at q
        rw [List.length_map]
        exact h gr (hm gr (List.mem_cons_self ..)) q.1
      · exact Nat.zero_le _
    omega
theorem ord_le : ∀ (d : Nat) (l : List Nat) (t : Bool), l.length ≤ 4 → (ordL d l t).length ≤ 16 ^ l.length
  | 0, _, _, _ => Nat.zero_le _
  | d + 1, l, t, h => by
    cases hl : l with
    | nil => exact Nat.le_refl _
    | cons x r =>
      rw [← hl]
      have he : l.isEmpty = false := by rw [hl]; rfl
      have hlen : l.length = r.length + 1 := by rw [hl]; rfl
      rw [ord_eq he]
      have h1 := ordF_le (d := d) (m := 16 ^ r.length) (l := l) (t := t) (fun gr hg h0 => by
        have q := filt_lt hg h0
        have q2 := ord_le d (l.filter fun y => !(gr.contains y)) t (by omega)
        exact Nat.le_trans q2 (Nat.pow_le_pow_right (by decide) (by omega))) (subsF [[]] l) fun _ h => h
      rw [hlen, Nat.pow_succ, Nat.mul_comm]
      exact Nat.le_trans h1 (Nat.mul_le_mul_right _ (sub16 h))
section
variable {g : List Cell} {X : XP} {P : W → Sto → Prop}
theorem filtG (gr l : List Nat) : ((nW l).filter fun w => (match w with | .int i => !(gr.contains i.toNat) | _ => false)).map (fun w => w) = nW (l.filter fun y => !(gr.contains y)) := by
  rw [List.map_id']
  unfold nW
  rw [List.filter_map]
  rfl
theorem v_notInN {x : W} {l : List Nat} {k : Nat} {st : Sto} (h : seqOf st x = some (nW l)) : wNotIn (.int (k : Nat)) x st = .ok (.bl (!(l.contains k))) st := by
  unfold wNotIn
  have e : (seqOf st x).bind (W.dats 8) = some (l.map fun k : Nat => PyData.int (k : Int)) := by rw [h]; exact nW_dats 8 l
  rw [e]
  show Res.ok (W.bl (!_)) st = _
  rw [← any_int]
theorem orders_ok : ∀ (d : Nat) (l : List Nat) (t : Bool) (c : List Cell), l.length < d → d ≤ 6 → l.length ≤ 4 → F__law_orders d [.tup (nW l), .bl t] (C c) = .ok (.ref c.length) (C (c ++ .lst ((ordL d l t).map outW) :: []))
  | 0, l, t, c, h, _, _ => by omega
  | d + 1, l, t, c, h, hd, h4 => by
    refine run_eq ?_
    unfold F__law_orders
    have ln : ∀ (X : XP) (P : W → Sto → Prop), Ok (fLen [.tup (nW l)] (C c)) X P = P (.int (l.length : Nat)) (C c) := fun X P => by
      rw [v_lenL (by intro z h; cases h) (ws := nW l) rfl, nW_len]
    exists ln
    by_cases h0 : ((l.length : Nat) : Int) = 0
    · have hl : l = [] := List.length_eq_zero_iff.mp (by omega)
      subst hl
      exists h0, (by decide : (1 : Nat) ≤ 1000)
      have := c_trimL (c := c) (g := [Cell.lst [.tup []]]) (j := 0) (P := fun b t' => b = W.ref c.length ∧ t' = C (c ++ .lst ((ordL (d + 1) [] t).map outW) :: [])) (X := nX) rfl rfl
      exact (show _ = _ from this).mpr ⟨rfl, rfl⟩
    · have hne : l.isEmpty = false := by cases l with | nil => exact absurd rfl h0 | cons a r => rfl
      have sb := subsets_ok (c := c ++ [Cell.lst []]) h4
      have gl : RB.getL (C ((c ++ [Cell.lst []]) ++ [Cell.lst ((subsF [[]] l).map grpW)])) (c ++ [Cell.lst []]).length = some ((subsF [[]] l).map grpW) := by unfold RB.getL; rw [c_get]
      exists h0, (by decide : (0 : Nat) ≤ 1000), Sto.push, kk sb, gl
      have cap : ∀ i, (((subsF [[]] l).take i).flatMap (ordF d l t)).length ≤ 16 * 16 ^ 3 := fun i => by
        have h1 := ordF_le (d := d) (m := 16 ^ 3) (l := l) (t := t) (fun gr hg h0 => by
          have q := filt_lt hg h0
          have q2 := ord_le d (l.filter fun y => !(gr.contains y)) t (by omega)
          exact Nat.le_trans q2 (Nat.pow_le_pow_right (by decide) (by omega))) ((subsF [[]] l).take i) fun _ h => List.mem_of_mem_take h
        have h3 : ((subsF [[]] l).take i).length ≤ 16 := by rw [List.length_take]; have := sub16 h4; omega
        exact Nat.le_trans h1 (Nat.mul_le_mul_right _ h3)
      have sbp : ∀ (M : List (List (List Nat))) (g : List Cell) (us : List W), (C ((c ++ .lst (M.map outW) :: .lst ((subsF [[]] l).map grpW) :: g))).c[c.length + 1]? = some (.lst ((subsF [[]] l).map grpW)) := fun M g us => by
        show (c ++ _ :: _ :: g)[c.length + 1]? = _
        rw [List.getElem?_append_right (by omega), Nat.add_sub_cancel_left]; rfl
      have n1 : (c ++ [Cell.lst []]).length = c.length + 1 := by rw [List.length_append]; rfl
      rw [n1]
      refine loop_fix ((subsF [[]] l).map grpW) (fun i l1 st => ∃ (g : List Cell) (a b e : Option W), l1 = [some (.tup (nW l)), some (.bl t), some (.ref c.length), a, b, e] ∧ st = C (c ++ .lst ((((subsF [[]] l).take i).flatMap (ordF d l t)).map outW) :: .lst ((subsF [[]] l).map grpW) :: g)) ?_ ?_ ?_ 1000000 0 _ _ (by rw [List.length_map]; have := sub16 h4; omega) (Nat.zero_le _) ⟨[], none, none, none, rfl, by simp⟩
      · rintro i l1 st ⟨g, a, b, e, rfl, rfl⟩
        show (RB.getL _ _).map _ = _
        unfold RB.getL
        rw [sbp _ _ []]; rfl
      · rintro i w l1 st hw ⟨g, a, b, e, rfl, rfl⟩
        rw [List.getElem?_map] at hw
        cases ex : (subsF [[]] l)[i]? with
        | none => rw [ex] at hw; cases hw
        | some gr =>
          rw [ex] at hw
          cases hw
          refine ⟨_, rfl, ?_⟩
          have hgr := List.mem_of_getElem? ex
          have tk : (subsF [[]] l).take (i + 1) = (subsF [[]] l).take i ++ [gr] := by rw [List.take_succ, ex]; rfl
          have hcap := cap (i + 1)
          rw [tk, List.flatMap_append, List.flatMap_cons, List.flatMap_nil, List.append_nil] at hcap
          have goal : ∀ (M : List (List (List Nat))), M = ((subsF [[]] l).take i).flatMap (ordF d l t) → ((subsF [[]] l).take (i + 1)).flatMap (ordF d l t) = M ++ ordF d l t gr := fun M hM => by
            rw [tk, List.flatMap_append, List.flatMap_cons, List.flatMap_nil, List.append_nil, hM]
          generalize hM : ((subsF [[]] l).take i).flatMap (ordF d l t) = M at hcap ⊢
          rw [goal M hM.symm]
          have lg : ∀ (st : Sto) (X : XP) (P : W → Sto → Prop), Ok (fLen [grpW gr] st) X P = P (.int (gr.length : Nat)) st := fun st X P => by
            rw [v_lenL (by intro z h; cases h) (ws := nW gr) rfl, nW_len]
          have vs : ∀ (a b e : Option W) (st : Sto) (X : XP) (P : Src → Sto → Prop), Ok (vSeq (eLoc 0) [some (.tup (nW l)), some (.bl t), some (.ref c.length), a, b, e] st) X P = P (.fix (nW l)) st := fun a b e st X P => rfl
          have body : ∀ (D : Po4), (∀ (g' : List Cell) (a b e : Option W), D.nx [some (.tup (nW l)), some (.bl t), some (.ref c.length), a, b, e] (C (c ++ .lst ((M ++ (ordL d (l.filter fun y => !(gr.contains y)) t).map fun r => gr :: r).map outW) :: .lst ((subsF [[]] l).map grpW) :: g'))) → 0 < gr.length → (M ++ (ordL d (l.filter fun y => !(gr.contains y)) t).map fun r => gr :: r).length ≤ 16 * 16 ^ 3 →
              OkS (sFor 1000000 (vSeq (eCall (F__law_orders d) [] (evCons (eB fTuple (evCons (eComp 1000000 [5] (vSeq (eLoc 0)) (tgName 5) (bVal (eBin wNotIn (eLoc 5) (eLoc 3))) (eLoc 5)) (evNil))) (evCons (eLoc 1) (evNil))))) (tgName 4) (sDrop (eMt fAppend (eLoc 2) (evCons (eBin wAdd (eTup (evCons (eLoc 3) (evNil))) (eLoc 4)) (evNil)))) [some (.tup (nW l)), some (.bl t), some (.ref c.length), some (grpW gr), b, e] (C (c ++ .lst (M.map outW) :: .lst ((subsF [[]] l).map grpW) :: g))) D := by
            intro D hD h0 hcap2
            have flt := filt_lt hgr h0
            exists vs
            refine cl_pure (c := c ++ .lst (M.map outW) :: .lst ((subsF [[]] l).map grpW) :: g) (ws := nW l) (fun _ _ => rfl) (fun w => (match w with | .int i => !(gr.contains i.toNat) | _ => false)) (fun w => w) (by rw [nW_len]; omega) (fun w hw => ?_) ?_
            · obtain ⟨y, hy, rfl⟩ := List.mem_map.mp hw
              refine ⟨_, fun _ => rfl, fun us => run_eq ?_, fun _ => ⟨rfl, fun us => rfl⟩⟩
              have ni : ∀ (st : Sto), wNotIn (.int (y : Nat)) (grpW gr) st = .ok (.bl (!(gr.contains y))) st := fun st => v_notInN rfl
              exists wipeL, kk (ni _)
              trivial
            · rw [filtG]
              have hord := orders_ok d (l.filter fun y => !(gr.contains y)) t ((c ++ .lst (M.map outW) :: .lst ((subsF [[]] l).map grpW) :: g) ++ [Cell.lst (nW (l.filter fun y => !(gr.contains y)))]) (by omega) (by omega) (by omega)
              have mlen : ∀ y ∈ ordL d (l.filter fun y => !(gr.contains y)) t, y.length ≤ 6 := fun y hy => Nat.le_trans (ord_len d _ t y hy) (by omega)
              generalize hfl : (l.filter fun y => !(gr.contains y)) = fl at hord hcap2 mlen hD ⊢
              rw [v_tup (c_seq (ws := nW fl)), kk hord]
              dsimp only
              have gl2 : RB.getL (C (((c ++ .lst (M.map outW) :: .lst ((subsF [[]] l).map grpW) :: g) ++ [Cell.lst (nW fl)]) ++ [Cell.lst ((ordL d fl t).map outW)])) ((c ++ .lst (M.map outW) :: .lst ((subsF [[]] l).map grpW) :: g) ++ [Cell.lst (nW fl)]).length = some ((ordL d fl t).map outW) := by unfold RB.getL; rw [c_get]
              rw [gl2]
              dsimp only
              have nn : ((c ++ .lst (M.map outW) :: .lst ((subsF [[]] l).map grpW) :: g) ++ [Cell.lst (nW fl)]).length = c.length + (g.length + 3) := by simp
              rw [nn]
              refine loop_fix ((ordL d fl t).map outW) (fun j l2 st => ∃ a' : Option W, l2 = [some (.tup (nW l)), some (.bl t), some (.ref c.length), some (grpW gr), a', e] ∧ st = C (c ++ .lst ((M ++ ((ordL d fl t).take j).map fun r => gr :: r).map outW) :: .lst ((subsF [[]] l).map grpW) :: (g ++ [Cell.lst (nW fl), Cell.lst ((ordL d fl t).map outW)]))) ?_ ?_ ?_ 1000000 0 _ _ (by rw [List.length_map]; simp at hcap2; omega) (Nat.zero_le _) ⟨b, rfl, by simp⟩
              · rintro j l2 st ⟨a', rfl, rfl⟩
                have e1 : (C (c ++ .lst ((M ++ ((ordL d fl t).take j).map fun r => gr :: r).map outW) :: .lst ((subsF [[]] l).map grpW) :: (g ++ [Cell.lst (nW fl), Cell.lst ((ordL d fl t).map outW)]))).c[c.length + (g.length + 3)]? = some (Cell.lst ((ordL d fl t).map outW)) := by
                  show (c ++ _ :: _ :: (g ++ [Cell.lst (nW fl), Cell.lst ((ordL d fl t).map outW)]))[c.length + (g.length + 3)]? = _
                  rw [List.getElem?_append_right (Nat.le_add_right _ _), Nat.add_sub_cancel_left, List.getElem?_cons_succ, List.getElem?_cons_succ, List.getElem?_append_right (by omega)]
                  have : g.length + 1 - g.length = 1 := by omega
                  rw [this]; rfl
                show (RB.getL _ _).map _ = _
                unfold RB.getL
                rw [e1]; rfl
              · rintro j w2 l2 st hw2 ⟨a', rfl, rfl⟩
                rw [List.getElem?_map] at hw2
                cases er : (ordL d fl t)[j]? with
                | none => rw [er] at hw2; cases hw2
                | some r =>
                  rw [er] at hw2
                  cases hw2
                  refine ⟨_, rfl, ?_⟩
                  have tk2 : (ordL d fl t).take (j + 1) = (ordL d fl t).take j ++ [r] := by rw [List.take_succ, er]; rfl
                  have hj := (List.getElem?_eq_some_iff.mp er).1
                  have ad : ∀ (st : Sto) (X : XP) (P : W → Sto → Prop), Ok (wAdd (.tup [grpW gr]) (outW r) st) X P = P (outW (gr :: r)) st := fun st X P => by
                    have q := mlen r (List.mem_of_getElem? er)
                    show Ok (if ([grpW gr] : List W).length + (r.map grpW).length ≤ 1000000 then Res.ok (W.tup ([grpW gr] ++ r.map grpW)) st else .err) X P = _
                    rw [if_pos (by rw [List.length_map, List.length_singleton]; omega)]; rfl
                  have isl : ∀ (us : List W) (g : List Cell), isL (C (c ++ .lst us :: g)) (.ref c.length) = true := fun us g => by
                    unfold isL
                    have e : (C (c ++ .lst us :: g)).c[c.length]? = some (.lst us) := c_get
                    dsimp only
                    rw [e]
                  have ap := app_at (us := (M ++ ((ordL d fl t).take j).map fun r => gr :: r).map outW) (v := outW (gr :: r)) (c := c) (g := .lst ((subsF [[]] l).map grpW) :: (g ++ [Cell.lst (nW fl), Cell.lst ((ordL d fl t).map outW)])) (grps_pure _) (by
                    simp only [List.length_map, List.length_append, List.length_take] at hcap2 ⊢
                    omega)
                  exists k_eMt, isl, ad, kk ap
                  refine ⟨some (outW r), rfl, ?_⟩
                  rw [tk2]
                  simp
              · rintro l2 st ⟨a', rfl, rfl⟩
                rw [List.length_map, List.take_length]
                exact hD _ _ _ _
          have skip : ordF d l t gr = [] → ∃ (g1 : List Cell) (a1 b1 e1 : Option W), [some (W.tup (nW l)), some (.bl t), some (.ref c.length), some (grpW gr), b, e] = [some (.tup (nW l)), some (.bl t), some (.ref c.length), a1, b1, e1] ∧ C (c ++ .lst (M.map outW) :: .lst ((subsF [[]] l).map grpW) :: g) = C (c ++ .lst ((M ++ ordF d l t gr).map outW) :: .lst ((subsF [[]] l).map grpW) :: g1) := fun h => ⟨g, _, _, _, rfl, by rw [h, List.append_nil]⟩
          have take' : (decide (0 < gr.length) && (t || decide (gr.length = 1))) = true → ordF d l t gr = (ordL d (l.filter fun y => !(gr.contains y)) t).map fun r => gr :: r := fun h => by unfold ordF; rw [if_pos h]
          have leave' : ¬ ((decide (0 < gr.length) && (t || decide (gr.length = 1))) = true) → ordF d l t gr = [] := fun h => by unfold ordF; rw [if_neg h]
          generalize hB : sFor 1000000 _ _ _ = BD
          rw [hB] at body
          exists lg, truth
          by_cases q1 : (0 : Int) < (gr.length : Nat)
          · rw [if_pos q1]
            cases t with
            | true =>
              rw [if_pos rfl]
              have tt := take' (by rw [decide_eq_true (by omega : 0 < gr.length)]; rfl)
              rw [tt] at hcap
              rw [tt]
              exact body _ (fun g' a b e => ⟨g', a, b, e, rfl, rfl⟩) (by omega) hcap
            | false =>
              rw [if_neg (by decide)]
              by_cases q2 : ((gr.length : Nat) : Int) = 1
              · rw [if_pos q2]
                have tt := take' (by rw [decide_eq_true (by omega : 0 < gr.length), decide_eq_true (by omega : gr.length = 1)]; rfl)
                rw [tt] at hcap
                rw [tt]
                exact body _ (fun g' a b e => ⟨g', a, b, e, rfl, rfl⟩) (by omega) hcap
              · rw [if_neg q2]
                exact skip (leave' (by rw [decide_eq_false (by omega : ¬ gr.length = 1)]; simp))
          · rw [if_neg q1]
            exact skip (leave' (by rw [decide_eq_false (by omega : ¬ 0 < gr.length)]; simp))
      · rintro l1 st ⟨g, a, b, e, rfl, rfl⟩
        rw [List.length_map, List.take_length]
        exists k_loc
        have := c_trimL (c := c) (g := .lst (((subsF [[]] l).flatMap (ordF d l t)).map outW) :: .lst ((subsF [[]] l).map grpW) :: g) (j := 0) (P := fun b t' => b = W.ref c.length ∧ t' = C (c ++ .lst ((ordL (d + 1) l t).map outW) :: [])) (X := nX) rfl (outs_pure _)
        refine (show _ = _ from this).mpr ⟨rfl, ?_⟩
        rw [ord_eq hne]
end
end LW

set_option Elab.async false
set_option linter.all false
set_option maxRecDepth 100000
set_option maxHeartbeats 4000000
namespace LW
open PySem PySem.W RB L2
local macro_rules | `(tactic| exists $es,*) => `(tactic| simp (config := {decide := false, implicitDefEqProofs := false}) only [k_ok, k_exc, k_err, k_ite, k_iteS, k_nx, k_rt, k_loc, k_lit, k_nil, k_cons, k_tup, k_lst, k_bin, k_eB, k_eU, k_call, k_tru, k_not, k_and, k_or, k_if, k_eAnd, k_eOr, k_eNot, k_val, k_chain, k_sNil, k_sSeq, k_sSet, tgName, tgTup, tgCons, tgNil, Option.bind_some, k_sDrop, k_sRet, k_sRetN, k_sIf, k_sBreak, k_sCont, k_sFor, k_sRaise, k_sTry, k_defn, k_vSeq, k_rng1, k_comp,
  v_add, v_sub, v_mul, v_mod, v_div, v_lt, v_le, v_gt, v_ge, v_eq, v_ne, v_neg, v_int, v_min,
  List.map_cons, List.map_nil, List.length_cons, List.length_nil, List.replicate_succ, List.replicate_zero, List.cons_append, List.nil_append, List.append_nil, List.getElem?_cons_succ, List.getElem?_cons_zero, List.set_cons_succ, List.set_cons_zero,
  Nat.reduceAdd, Nat.reduceSub, Nat.zero_add, decide_eq_true_eq, Bool.not_eq_true', decide_eq_false_iff_not, Bool.true_eq_false, Bool.false_eq_true, if_true, if_false, ite_true, ite_false, ite_self, reduceIte, Nat.reduceLeDiff, true_and, and_true, $[$es:term],*])
def absN (n : Nat) (f : Nat → Bool) : List Nat := (List.range n).filter f
def hereN (n : Nat) (gone : List Nat) : List Nat := (List.range n).filter fun k => !(gone.contains k)
def hereF (n : Nat) (t : Bool) (gone : List Nat) : List (List (List Nat)) := if 0 < (hereN n gone).length then ordL 6 (hereN n gone) t else []
/-- the outcomes, as the law's own loops find them -/
def rawO (n : Nat) (t : Bool) (f : Nat → Bool) : List (List (List Nat)) := (subsF [[]] (absN n f)).flatMap (hereF n t)
def outD (o : List (List Nat)) : PyData := .tuple (o.map fun g => .tuple (g.map fun k : Nat => PyData.int (k : Int)))
theorem grp_dats (n : Nat) : ∀ o : List (List Nat), W.dats (n + 1) (o.map grpW) = some (o.map fun g => .tuple (g.map fun k : Nat => PyData.int (k : Int)))
  | [] => rfl
  | g :: r => by
    have h1 : W.dat (n + 1) (grpW g) = some (.tuple (g.map fun k : Nat => PyData.int (k : Int))) := by
      show (W.dats n (nW g)).map PyData.tuple = _
      rw [nW_dats]; rfl
    show (match W.dat (n + 1) (grpW g), W.dats (n + 1) (r.map grpW) with | some d, some ds => some (d :: ds) | _, _ => none) = _
    rw [h1, grp_dats n r]; rfl
theorem out_dats (n : Nat) : ∀ l : List (List (List Nat)), W.dats (n + 2) (l.map outW) = some (l.map outD)
  | [] => rfl
  | o :: r => by
    have h1 : W.dat (n + 2) (outW o) = some (outD o) := by
      show (W.dats (n + 1) (o.map grpW)).map PyData.tuple = _
      rw [grp_dats]; rfl
    show (match W.dat (n + 2) (outW o), W.dats (n + 2) (r.map outW) with | some d, some ds => some (d :: ds) | _, _ => none) = _
    rw [h1, out_dats n r]; rfl
theorem tupB_ints (g : List Nat) : tupB (.tuple (g.map fun k : Nat => PyData.int (k : Int))) = true := by
  show (g.map fun k : Nat => PyData.int (k : Int)).all intB = true
  rw [List.all_map, List.all_eq_true]
  intro k _; rfl
theorem nest_out {o : List (List Nat)} (h : o ≠ []) : nestB (outD o) = true := by
  cases o with
  | nil => exact absurd rfl h
  | cons g r =>
    show ((PyData.tuple _) :: (r.map fun g => PyData.tuple (g.map fun k : Nat => PyData.int (k : Int)))).all tupB = true
    rw [List.all_cons, tupB_ints, List.all_map, Bool.true_and, List.all_eq_true]
    intro g _
    exact tupB_ints g
theorem ord_ne {d : Nat} {l : List Nat} {t : Bool} (hl : l.isEmpty = false) : ∀ o ∈ ordL d l t, o ≠ [] := fun o ho => by
  cases d with
  | zero => cases ho
  | succ d =>
    rw [ord_eq hl] at ho
    obtain ⟨gr, _, h⟩ := List.mem_flatMap.mp ho
    unfold ordF at h
    split at h
    · obtain ⟨r, _, rfl⟩ := List.mem_map.mp h
      exact fun z => by cases z
    · cases h
theorem raw_ne {n : Nat} {t : Bool} {f : Nat → Bool} : ∀ o ∈ rawO n t f, o ≠ [] := fun o ho => by
  obtain ⟨gone, _, h⟩ := List.mem_flatMap.mp ho
  unfold hereF at h
  split at h
  · rename_i q
    refine ord_ne ?_ o h
    cases e : hereN n gone with
    | nil => rw [e] at q; cases q
    | cons a r => rfl
  · cases h
theorem sort_out {l : List (List (List Nat))} (h : ∀ o ∈ l, o ≠ []) : ∃ ws, sortRes (l.map outW) = some ws ∧ ws.length = l.length ∧ ∀ w ∈ ws, ∃ o ∈ l, w = outW o := by
  unfold sortRes
  rw [out_dats 6]
  dsimp only
  have hn : (l.map outD).all nestB = true := by
    rw [List.all_map, List.all_eq_true]
    intro o ho
    exact nest_out (h o ho)
  rw [if_pos (by rw [hn]; rfl)]
  refine ⟨_, rfl, ?_, fun w hw => ?_⟩
  · rw [sortB_eq (dataLe_total Prod.snd), List.length_map, List.length_mergeSort, List.length_zip, List.length_map, List.length_map, Nat.min_self]
  · obtain ⟨p, hp, rfl⟩ := List.mem_map.mp hw
    have := insB_mem2 hp
    obtain ⟨o, ho, e⟩ := List.mem_map.mp (List.of_mem_zip this).1
    exact ⟨o, ho, e.symm⟩
theorem pures_all : ∀ {ws : List W}, (∀ w ∈ ws, W.pure w = true) → W.pures ws = true
  | [], _ => rfl
  | w :: r, h => by show (W.pure w && W.pures r) = true; rw [h w (List.mem_cons_self ..), pures_all fun x hx => h x (List.mem_cons_of_mem _ hx)]; rfl
theorem upN (n : Nat) : upFrom 0 n = nW (List.range n) := by
  refine List.ext_getElem? fun i => ?_
  unfold nW
  rw [upFrom_get, List.getElem?_map]
  by_cases h : i < n
  · rw [if_pos h, List.getElem?_range h]; simp
  · rw [if_neg h, List.getElem?_eq_none (by rw [List.length_range]; omega)]; rfl
def goneB (gr : List Nat) (w : W) : Bool := match w with | .int i => !(gr.contains i.toNat) | _ => false
theorem filtH (gr l : List Nat) : ((nW l).filter (goneB gr)).map (fun w => w) = nW (l.filter fun y => !(gr.contains y)) := by
  rw [List.map_id']
  unfold nW
  rw [List.filter_map]
  rfl
theorem ord75 {n : Nat} (hn : n ≤ 4) (t : Bool) (p : Nat → Bool) : (ordL 6 ((List.range n).filter p) t).length ≤ 75 := by
  have : n = 0 ∨ n = 1 ∨ n = 2 ∨ n = 3 ∨ n = 4 := by omega
  rcases this with rfl | rfl | rfl | rfl | rfl
  · change (ordL 6 (List.filter p []) t).length ≤ 75
    simp only [List.filter]
    cases t <;> decide +kernel
  · change (ordL 6 (List.filter p [0]) t).length ≤ 75
    simp only [List.filter]
    cases p 0 <;> cases t <;> decide +kernel
  · change (ordL 6 (List.filter p [0, 1]) t).length ≤ 75
    simp only [List.filter]
    cases p 0 <;> cases p 1 <;> cases t <;> decide +kernel
  · change (ordL 6 (List.filter p [0, 1, 2]) t).length ≤ 75
    simp only [List.filter]
    cases p 0 <;> cases p 1 <;> cases p 2 <;> cases t <;> decide +kernel
  · change (ordL 6 (List.filter p [0, 1, 2, 3]) t).length ≤ 75
    simp only [List.filter]
    cases p 0 <;> cases p 1 <;> cases p 2 <;> cases p 3 <;> cases t <;> decide +kernel
theorem here75 {n : Nat} (hn : n ≤ 4) (t : Bool) (gone : List Nat) : (hereF n t gone).length ≤ 75 := by
  unfold hereF
  split
  · exact ord75 hn t _
  · exact Nat.zero_le _
theorem flat75 {n : Nat} (hn : n ≤ 4) (t : Bool) : ∀ l : List (List Nat), (l.flatMap (hereF n t)).length ≤ l.length * 75
  | [] => Nat.zero_le _
  | x :: r => by
    have := flat75 hn t r
    have := here75 hn t x
    rw [List.flatMap_cons, List.length_append, List.length_cons]; omega
section
variable {c g : List Cell} {X : XP} {P : W → Sto → Prop} {n : Nat} {t : Bool} {f : Nat → Bool} {cu : List Int}
theorem here_len (gone : List Nat) : (hereN n gone).length ≤ n := by
  have := List.length_filter_le (fun k => !(gone.contains k)) (List.range n)
  rwa [List.length_range] at this
theorem outcomes_ok2 (hn : n ≤ 4) : ∃ ws, F__law_outcomes [raceW n t f cu] (C c) = .ok (.tup ws) (C c) ∧ ws.length = (rawO n t f).length ∧ (∀ w ∈ ws, ∃ o ∈ rawO n t f, w = outW o) ∧ sortRes ((rawO n t f).map outW) = some ws := by
  obtain ⟨ws, hws, hlen, hmem⟩ := sort_out (l := rawO n t f) raw_ne
  refine ⟨ws, run_eq ?_, hlen, hmem, hws⟩
  unfold F__law_outcomes
  have abl : (absN n f).length ≤ 4 := by
    have := List.length_filter_le f (List.range n)
    rw [List.length_range] at this
    show ((List.range n).filter f).length ≤ 4
    omega
  have i0 : ∀ (st : Sto) (X : XP) (P : W → Sto → Prop), Ok (wIx (raceW n t f cu) (.int 0) st) X P = P (.int n) st := fun st X P => rfl
  have i1 : ∀ (st : Sto) (X : XP) (P : W → Sto → Prop), Ok (wIx (raceW n t f cu) (.int 1) st) X P = P (.bl t) st := fun st X P => rfl
  have i2 : ∀ (st : Sto) (X : XP) (P : W → Sto → Prop), Ok (wIx (raceW n t f cu) (.int 2) st) X P = P (.tup (nW (absN n f))) st := fun st X P => rfl
  have sb := subsets_ok (c := c ++ [Cell.lst []]) abl
  have gl : RB.getL (C ((c ++ [Cell.lst []]) ++ [Cell.lst ((subsF [[]] (absN n f)).map grpW)])) (c ++ [Cell.lst []]).length = some ((subsF [[]] (absN n f)).map grpW) := by unfold RB.getL; rw [c_get]
  exists (by decide : (0 : Nat) ≤ 1000), Sto.push, i2, kk sb, gl
  have n1 : (c ++ [Cell.lst []]).length = c.length + 1 := by rw [List.length_append]; rfl
  rw [n1]
  have rawcap : ∀ i, (((subsF [[]] (absN n f)).take i).flatMap (hereF n t)).length ≤ 2000 := fun i => by
    have h1 := flat75 hn t ((subsF [[]] (absN n f)).take i)
    have h2 : ((subsF [[]] (absN n f)).take i).length ≤ 16 := by rw [List.length_take]; have := sub16 abl; omega
    omega
  refine loop_fix ((subsF [[]] (absN n f)).map grpW) (fun i l1 st => ∃ (g : List Cell) (j : Nat) (a b e : Option W), (Cell.lst [] :: .lst ((subsF [[]] (absN n f)).map grpW) :: g)[j]? = some (.lst ((((subsF [[]] (absN n f)).take i).flatMap (hereF n t)).map outW)) ∧ l1 = [some (raceW n t f cu), some (.ref (c.length + j)), a, b, e] ∧ st = C (c ++ Cell.lst [] :: .lst ((subsF [[]] (absN n f)).map grpW) :: g)) ?_ ?_ ?_ 1000000 0 _ _ (by rw [List.length_map]; have := sub16 abl; omega) (Nat.zero_le _) ⟨[], 0, none, none, none, rfl, rfl, by simp⟩
  · rintro i l1 st ⟨g, j, a, b, e, _, rfl, rfl⟩
    show (RB.getL _ _).map _ = _
    unfold RB.getL
    have : (C (c ++ Cell.lst [] :: .lst ((subsF [[]] (absN n f)).map grpW) :: g)).c[c.length + 1]? = some (.lst ((subsF [[]] (absN n f)).map grpW)) := by
      show (c ++ _ :: _ :: g)[c.length + 1]? = _
      rw [List.getElem?_append_right (by omega), Nat.add_sub_cancel_left]; rfl
    rw [this]; rfl
  · rintro i w l1 st hw ⟨g, j, a, b, e, hj, rfl, rfl⟩
    rw [List.getElem?_map] at hw
    cases ex : (subsF [[]] (absN n f))[i]? with
    | none => rw [ex] at hw; cases hw
    | some gone =>
      rw [ex] at hw
      cases hw
      refine ⟨_, rfl, ?_⟩
      have tk : (subsF [[]] (absN n f)).take (i + 1) = (subsF [[]] (absN n f)).take i ++ [gone] := by rw [List.take_succ, ex]; rfl
      have hnb : -1000000 ≤ (n : Int) ∧ (n : Int) ≤ 1000000 := by omega
      generalize hD : c ++ Cell.lst [] :: .lst ((subsF [[]] (absN n f)).map grpW) :: g = D
      have hjD : D[c.length + j]? = some (.lst ((((subsF [[]] (absN n f)).take i).flatMap (hereF n t)).map outW)) := by
        rw [← hD, List.getElem?_append_right (Nat.le_add_right _ _), Nat.add_sub_cancel_left]; exact hj
      exists i0, i1, hnb, Int.toNat_natCast
      rw [upN]
      refine cl_pure (c := D) (ws := nW (List.range n)) (fun _ _ => rfl) (goneB gone) (fun w => w) (by rw [nW_len, List.length_range]; omega) (fun w hw => ?_) ?_
      · obtain ⟨y, hy, rfl⟩ := List.mem_map.mp hw
        refine ⟨_, fun _ => rfl, fun us => run_eq ?_, fun _ => ⟨rfl, fun us => rfl⟩⟩
        have ni : ∀ (st : Sto), wNotIn (.int (y : Nat)) (grpW gone) st = .ok (.bl (!(gone.contains y))) st := fun st => v_notInN rfl
        exists wipeL, kk (ni _)
        trivial
      · rw [filtH]
        have hh4 : (hereN n gone).length ≤ 4 := Nat.le_trans (here_len gone) hn
        have hord := orders_ok 6 (hereN n gone) t (D ++ [Cell.lst (nW (hereN n gone))]) (by omega) (by omega) hh4
        have hF : hereF n t gone = if 0 < (hereN n gone).length then ordL 6 (hereN n gone) t else [] := rfl
        have flt : ((subsF [[]] (absN n f)).take (i + 1)).flatMap (hereF n t) = ((subsF [[]] (absN n f)).take i).flatMap (hereF n t) ++ hereF n t gone := by
          rw [tk, List.flatMap_append, List.flatMap_cons, List.flatMap_nil, List.append_nil]
        have cap := rawcap (i + 1)
        rw [flt] at cap ⊢
        rw [List.length_append] at cap
        change Ok (fTuple [W.ref D.length] (C (D ++ [Cell.lst (nW (hereN n gone))]))) _ _
        rw [v_tup (c_seq (ws := nW (hereN n gone))), v_lenL (by intro z h; cases h) (ws := nW (hereN n gone)) rfl, nW_len, v_gt]
        dsimp only
        by_cases h0 : (0 : Int) < ((hereN n gone).length : Nat)
        · have h0' : 0 < (hereN n gone).length := by omega
          rw [if_pos h0'] at hF
          rw [decide_eq_true h0, if_pos rfl, kk hord]
          have a1 : (C ((D ++ [Cell.lst (nW (hereN n gone))]) ++ .lst ((ordL 6 (hereN n gone) t).map outW) :: [])).c[c.length + j]? = some (.lst ((((subsF [[]] (absN n f)).take i).flatMap (hereF n t)).map outW)) := get_app (get_app hjD)
          have a2 : (C ((D ++ [Cell.lst (nW (hereN n gone))]) ++ .lst ((ordL 6 (hereN n gone) t).map outW) :: [])).c[(D ++ [Cell.lst (nW (hereN n gone))]).length]? = some (.lst ((ordL 6 (hereN n gone) t).map outW)) := c_get
          rw [hF] at cap ⊢
          rw [v_addLs a1 a2 (by simp only [List.length_map]; omega)]
          refine ⟨g ++ [Cell.lst (nW (hereN n gone)), .lst ((ordL 6 (hereN n gone) t).map outW), .lst ((((subsF [[]] (absN n f)).take i).flatMap (hereF n t) ++ ordL 6 (hereN n gone) t).map outW)], g.length + 4, some (grpW gone), some (.tup (nW (hereN n gone))), e, ?_, ?_, ?_⟩
          · rw [List.getElem?_cons_succ, List.getElem?_cons_succ, List.getElem?_append_right (by omega)]
            have : g.length + 2 - g.length = 2 := by omega
            rw [this]; rfl
          · have : (C ((D ++ [Cell.lst (nW (hereN n gone))]) ++ .lst ((ordL 6 (hereN n gone) t).map outW) :: [])).c.length = c.length + (g.length + 4) := by
              show ((D ++ [Cell.lst (nW (hereN n gone))]) ++ _).length = _
              rw [← hD]; simp
            rw [this]
          · rw [← hD, List.map_append]
            simp [Sto.push]
        · have h0' : ¬ 0 < (hereN n gone).length := by omega
          rw [if_neg h0'] at hF
          rw [decide_eq_false h0, if_neg (by decide), hF, List.append_nil]
          refine ⟨g ++ [Cell.lst (nW (hereN n gone))], j, some (grpW gone), some (.tup (nW (hereN n gone))), e, ?_, rfl, ?_⟩
          · exact get_app (c := Cell.lst [] :: .lst ((subsF [[]] (absN n f)).map grpW) :: g) hj
          · rw [← hD]; simp
  · rintro l1 st ⟨g, j, a, b, e, hj, rfl, rfl⟩
    rw [List.length_map, List.take_length] at hj
    have gj : RB.getL (C (c ++ Cell.lst [] :: .lst ((subsF [[]] (absN n f)).map grpW) :: g)) (c.length + j) = some ((rawO n t f).map outW) := by
      unfold RB.getL
      have : (C (c ++ Cell.lst [] :: .lst ((subsF [[]] (absN n f)).map grpW) :: g)).c[c.length + j]? = some (.lst ((rawO n t f).map outW)) := by
        show (c ++ _ :: _ :: g)[c.length + j]? = _
        rw [List.getElem?_append_right (Nat.le_add_right _ _), Nat.add_sub_cancel_left]; exact hj
      rw [this]
    exists k_loc
    rw [v_sort gj hws, v_tup (ws := ws) (by unfold Sto.push; exact c_seq)]
    rw [show (C (c ++ Cell.lst [] :: .lst ((subsF [[]] (absN n f)).map grpW) :: g)).push (.lst ws) = C (c ++ (Cell.lst [] :: .lst ((subsF [[]] (absN n f)).map grpW) :: g ++ [.lst ws])) by unfold Sto.push; rw [List.append_assoc]]
    rw [c_trim (by
      show W.pures ws = true
      refine pures_all fun w hw => ?_
      obtain ⟨o, _, rfl⟩ := hmem w hw
      show W.pures (o.map grpW) = true
      exact grps_pure o)]
    exact ⟨rfl, rfl⟩
theorem outcomes_ok (hn : n ≤ 4) : ∃ ws, F__law_outcomes [raceW n t f cu] (C c) = .ok (.tup ws) (C c) ∧ ws.length = (rawO n t f).length ∧ ∀ w ∈ ws, ∃ o ∈ rawO n t f, w = outW o := by
  obtain ⟨ws, h1, h2, h3, _⟩ := outcomes_ok2 (c := c) (t := t) (f := f) (cu := cu) hn
  exact ⟨ws, h1, h2, h3⟩
end
end LW

set_option Elab.async false
set_option linter.all false
set_option maxRecDepth 100000
set_option maxHeartbeats 4000000
namespace LW
open PySem PySem.W RB L2
local macro_rules | `(tactic| exists $es,*) => `(tactic| simp (config := {decide := false, implicitDefEqProofs := false}) only [k_ok, k_exc, k_err, k_ite, k_iteS, k_nx, k_rt, k_loc, k_lit, k_nil, k_cons, k_tup, k_lst, k_bin, k_eB, k_eU, k_call, k_tru, k_not, k_and, k_or, k_if, k_eAnd, k_eOr, k_eNot, k_val, k_chain, k_sNil, k_sSeq, k_sSet, tgName, tgTup, tgCons, tgNil, Option.bind_some, k_sDrop, k_sRet, k_sRetN, k_sIf, k_sBreak, k_sCont, k_sFor, k_sRaise, k_sTry, k_defn, k_vSeq, k_rng1, k_comp,
  v_add, v_sub, v_mul, v_mod, v_div, v_lt, v_le, v_gt, v_ge, v_eq, v_ne, v_neg, v_int, v_min,
  List.map_cons, List.map_nil, List.length_cons, List.length_nil, List.replicate_succ, List.replicate_zero, List.cons_append, List.nil_append, List.append_nil, List.getElem?_cons_succ, List.getElem?_cons_zero, List.set_cons_succ, List.set_cons_zero,
  Nat.reduceAdd, Nat.reduceSub, Nat.zero_add, decide_eq_true_eq, Bool.not_eq_true', decide_eq_false_iff_not, Bool.true_eq_false, Bool.false_eq_true, if_true, if_false, ite_true, ite_false, ite_self, reduceIte, Nat.reduceLeDiff, true_and, and_true, $[$es:term],*])
def okV (n : Nat) (t : Bool) (A : List Nat) (o : List (List Nat)) : Bool :=
  decide (o.length ≤ 4) && decide (1 ≤ o.length) && decide (0 < (waysL o).length) && decide (o.flatten.length ≤ 16) && decide ((L2.setI (iL o.flatten)).length = o.flatten.length) &&
  o.all (fun x => decide (x.length ≤ 4) && decide (1 ≤ x.length) && x.all (fun k => decide (k < n)) && decide (L2.setI (iL x) = iL x) && (t || decide (x.length = 1))) &&
  (List.range n).all fun k => o.flatten.contains k || A.contains k
theorem outv_of {n : Nat} {t : Bool} {f : Nat → Bool} {o : List (List Nat)} (h : okV n t (absN n f) o = true) : OutV n t f o := by
  unfold okV at h
  simp only [Bool.and_eq_true, decide_eq_true_eq, List.all_eq_true, Bool.or_eq_true] at h
  obtain ⟨⟨⟨⟨⟨⟨h1, h2⟩, h3⟩, h4⟩, h5⟩, h6⟩, h7⟩ := h
  refine ⟨⟨h1, fun x hx => (h6 x hx).1.1.1.1, h3⟩, h2, fun x hx => ⟨(h6 x hx).1.1.1.2, (h6 x hx).1.1.2, (h6 x hx).1.2, (h6 x hx).2⟩, h5, h4, fun k hk => ?_⟩
  rcases h7 k (List.mem_range.mpr hk) with z | z
  · exact .inl z
  · refine .inr ?_
    rw [List.contains_iff_mem] at z
    exact (List.mem_filter.mp z).2
def rawA (n : Nat) (t : Bool) (A : List Nat) : List (List (List Nat)) := (subsF [[]] A).flatMap (hereF n t)
theorem raw_ok {n : Nat} (h1 : 1 ≤ n) (hn : n ≤ 4) (t : Bool) (p : Nat → Bool) : (rawA n t ((List.range n).filter p)).all (okV n t ((List.range n).filter p)) = true ∧ 0 < (rawA n t ((List.range n).filter p)).length := by
  have : n = 1 ∨ n = 2 ∨ n = 3 ∨ n = 4 := by omega
  rcases this with rfl | rfl | rfl | rfl
  · change (rawA 1 t (List.filter p [0])).all (okV 1 t (List.filter p [0])) = true ∧ 0 < (rawA 1 t (List.filter p [0])).length
    simp only [List.filter]
    cases p 0 <;> cases t <;> decide +kernel
  · change (rawA 2 t (List.filter p [0, 1])).all (okV 2 t (List.filter p [0, 1])) = true ∧ 0 < (rawA 2 t (List.filter p [0, 1])).length
    simp only [List.filter]
    cases p 0 <;> cases p 1 <;> cases t <;> decide +kernel
  · change (rawA 3 t (List.filter p [0, 1, 2])).all (okV 3 t (List.filter p [0, 1, 2])) = true ∧ 0 < (rawA 3 t (List.filter p [0, 1, 2])).length
    simp only [List.filter]
    cases p 0 <;> cases p 1 <;> cases p 2 <;> cases t <;> decide +kernel
  · change (rawA 4 t (List.filter p [0, 1, 2, 3])).all (okV 4 t (List.filter p [0, 1, 2, 3])) = true ∧ 0 < (rawA 4 t (List.filter p [0, 1, 2, 3])).length
    simp only [List.filter]
    cases p 0 <;> cases p 1 <;> cases p 2 <;> cases p 3 <;> cases t <;> decide +kernel
theorem raw_outv {n : Nat} (h1 : 1 ≤ n) (hn : n ≤ 4) {t : Bool} {f : Nat → Bool} {o : List (List Nat)} (ho : o ∈ rawO n t f) : OutV n t f o :=
  outv_of (List.all_eq_true.mp (raw_ok h1 hn t f).1 o ho)
theorem raw_pos {n : Nat} (h1 : 1 ≤ n) (hn : n ≤ 4) (t : Bool) (f : Nat → Bool) : 0 < (rawO n t f).length := (raw_ok h1 hn t f).2
/-- it is among the orders of some runners -/
theorem raw_ord {n : Nat} {t : Bool} {f : Nat → Bool} {o : List (List Nat)} (ho : o ∈ rawO n t f) : ∃ p : Nat → Bool, o ∈ ordL 6 ((List.range n).filter p) t ∧ 0 < ((List.range n).filter p).length := by
  obtain ⟨gone, _, h⟩ := List.mem_flatMap.mp ho
  unfold hereF at h
  split at h
  · rename_i q
    exact ⟨_, h, q⟩
  · cases h
end LW

set_option Elab.async false
set_option linter.all false
set_option maxRecDepth 100000
set_option maxHeartbeats 4000000
namespace LW
open PySem PySem.W RB L2
local macro_rules | `(tactic| exists $es,*) => `(tactic| simp (config := {decide := false, implicitDefEqProofs := false}) only [k_ok, k_exc, k_err, k_ite, k_iteS, k_nx, k_rt, k_loc, k_lit, k_nil, k_cons, k_tup, k_lst, k_bin, k_eB, k_eU, k_call, k_tru, k_not, k_and, k_or, k_if, k_eAnd, k_eOr, k_eNot, k_val, k_chain, k_sNil, k_sSeq, k_sSet, tgName, tgTup, tgCons, tgNil, Option.bind_some, k_sDrop, k_sRet, k_sRetN, k_sIf, k_sBreak, k_sCont, k_sFor, k_sRaise, k_sTry, k_defn, k_vSeq, k_rng1, k_comp,
  v_add, v_sub, v_mul, v_mod, v_div, v_lt, v_le, v_gt, v_ge, v_eq, v_ne, v_neg, v_int, v_min,
  List.map_cons, List.map_nil, List.length_cons, List.length_nil, List.replicate_succ, List.replicate_zero, List.cons_append, List.nil_append, List.append_nil, List.getElem?_cons_succ, List.getElem?_cons_zero, List.set_cons_succ, List.set_cons_zero,
  Nat.reduceAdd, Nat.reduceSub, Nat.zero_add, decide_eq_true_eq, Bool.not_eq_true', decide_eq_false_iff_not, Bool.true_eq_false, Bool.false_eq_true, if_true, if_false, ite_true, ite_false, ite_self, reduceIte, Nat.reduceLeDiff, true_and, and_true, $[$es:term],*])
section
variable {c g : List Cell} {X : XP} {P : W → Sto → Prop}
/-- a sequence of these numbers, a tuple or a list -/
def Sq (c : List Cell) (x : W) (l : List Nat) : Prop := seqOf (C c) x = some (nW l)
theorem Sq.app {x : W} {l : List Nat} (h : Sq c x l) : Sq (c ++ g) x l := by
  unfold Sq seqOf at *
  cases x with
  | tup ws => exact h
  | ref n =>
    dsimp only at h ⊢
    unfold RB.getL at h ⊢
    cases e : c[n]? with
    | none => rw [show (C c).c[n]? = none from e] at h; cases h
    | some d => rw [show (C (c ++ g)).c[n]? = some d from get_app e]; rw [show (C c).c[n]? = some d from e] at h; exact h
  | _ => cases h
theorem Sq.src {x : W} {l : List Nat} (h : Sq c x l) : ∃ s : Src, (∀ g i, s.at (C (c ++ g)) i = some (nW l)[i]?) ∧ ∀ (i : Nat) (lo : Lo) (X : XP) (P : Src → Sto → Prop) (g : List Cell), lo[i]? = some (some x) → Ok (vSeq (eLoc i) lo (C (c ++ g))) X P = P s (C (c ++ g)) := by
  cases x with
  | tup ws =>
    have e : ws = nW l := by unfold Sq seqOf at h; exact Option.some.inj h
    subst e
    refine ⟨.fix (nW l), fun g i => rfl, fun i lo X P g hi => ?_⟩
    unfold vSeq eLoc
    rw [hi]; rfl
  | ref n =>
    have h2 : ∀ g, RB.getL (C (c ++ g)) n = some (nW l) := fun g => (Sq.app h : Sq (c ++ g) (.ref n) l)
    refine ⟨.live n, fun g i => ?_, fun i lo X P g hi => ?_⟩
    · show (RB.getL _ _).map _ = _
      rw [h2]; rfl
    · unfold vSeq eLoc
      rw [hi]
      show Ok (match RB.getL (C (c ++ g)) n with | some _ => Res.ok (Src.live n) _ | none => .err) X P = _
      rw [h2]; rfl
  | _ => unfold Sq seqOf at h; cases h
theorem Sq.ne {x : W} {l : List Nat} (h : Sq c x l) : ∀ z, x ≠ .str z := fun z e => by subst e; unfold Sq seqOf at h; cases h
theorem Sq.len {x : W} {l : List Nat} (h : Sq c x l) : Ok (fLen [x] (C c)) X P = P (.int (l.length : Nat)) (C c) := by
  rw [v_lenL h.ne h, nW_len]
theorem psubs_ok {l : List Nat} {x : W} (hx : Sq c x l) (h4 : l.length ≤ 4) : F__subsets [x] (C c) = .ok (.ref c.length) (C (c ++ .lst ((subsF [[]] l).map grpW) :: [])) := by
  refine run_eq ?_
  unfold F__subsets
  obtain ⟨s, hat, hsrc⟩ := hx.src
  have vs : ∀ (a b e : Option W) (X : XP) (P : Src → Sto → Prop), Ok (vSeq (eLoc 0) [some x, a, b, e] (C (c ++ [Cell.lst [.tup []]]))) X P = P s (C (c ++ [Cell.lst [.tup []]])) := fun a b e X P => hsrc 0 _ X P _ rfl
  have k_for : ∀ {n : Nat} {src : Lo → Sto → Res Src} {tg : Tg} {sa : Sx} {l : Lo} {st : Sto} {D : Po4}, OkS (sFor n src tg sa l st) D = Ok (src l st) (fun c p st => D.ex c p l st) fun s st1 => OkS (loopF s tg sa n 0 l st1) D := k_sFor
  rw [k_defn, k_sSeq]
  generalize hB : sSeq (sFor 1000000 (vSeq (eLoc 0)) _ _) _ = B
  exists (by decide : (1 : Nat) ≤ 1000), Sto.push
  subst hB
  rw [k_sSeq, k_for]
  rw [show Ok (vSeq (eLoc 0) [some x, some (.ref c.length), none, none] ⟨c ++ [Cell.lst [.tup []]], none⟩) _ _ = _ from vs _ _ _ _ _]
  refine loop_fix (nW l) (fun i l1 st => ∃ (g : List Cell) (j : Nat) (a e : Option W), g[j]? = some (.lst ((subsF [[]] (l.take i)).map grpW)) ∧ l1 = [some x, some (.ref (c.length + j)), a, e] ∧ st = C (c ++ g)) (fun i l1 st ⟨g, j, a, e, _, _, h⟩ => by rw [h]; exact hat g i) ?_ ?_ 1000000 0 _ _ (by rw [nW_len]; omega) (Nat.zero_le _) ⟨[.lst [.tup []]], 0, none, none, rfl, rfl, rfl⟩
  · rintro i w l1 st hw ⟨g, j, a, e, hg, rfl, rfl⟩
    obtain ⟨y, hy, rfl⟩ : ∃ y, l[i]? = some y ∧ w = .int (y : Nat) := by
      unfold nW at hw
      rw [List.getElem?_map] at hw
      cases ex : l[i]? with
      | none => rw [ex] at hw; cases hw
      | some x => rw [ex] at hw; cases hw; exact ⟨x, rfl, rfl⟩
    refine ⟨_, rfl, ?_⟩
    have tk : l.take (i + 1) = l.take i ++ [y] := by rw [List.take_succ, hy]; rfl
    have gj : (c ++ g)[c.length + j]? = some (.lst ((subsF [[]] (l.take i)).map grpW)) := by rw [List.getElem?_append_right (Nat.le_add_right _ _), Nat.add_sub_cancel_left]; exact hg
    have gl1 : RB.getL (C (c ++ g)) (c.length + j) = some ((subsF [[]] (l.take i)).map grpW) := by unfold RB.getL; rw [gj]
    have cap : (subsF [[]] (l.take i)).length ≤ 16 := by
      rw [subs_le]
      have : 2 ^ (l.take i).length ≤ 2 ^ 4 := Nat.pow_le_pow_right (by decide) (by rw [List.length_take]; omega)
      simpa using this
    have lens : ∀ z ∈ subsF [[]] (l.take i), z.length ≤ 4 := fun z hz => by
      have q := subs_len (l.take i) [[]] 0 (fun z hz => by rw [List.mem_singleton.mp hz]; exact Nat.le_refl _) z hz
      rw [List.length_take] at q
      omega
    exists gl1
    refine cl_map (c := c ++ g) (ws := (subsF [[]] (l.take i)).map grpW) (fun us i => live_at gj i) (fun w => (match w with | .tup ws => W.tup (ws ++ [.int (y : Nat)]) | _ => .non)) (by rw [List.length_map]; omega) (fun w hw => ?_) ?_
    · obtain ⟨z, hz, rfl⟩ := List.mem_map.mp hw
      have ad : ∀ (st : Sto) (X : XP) (P : W → Sto → Prop), Ok (wAdd (grpW z) (.tup [.int (y : Nat)]) st) X P = P (.tup (nW z ++ [.int (y : Nat)])) st := fun st X P => by
        show Ok (if (nW z).length + ([W.int (y : Nat)] : List W).length ≤ 1000000 then Res.ok (W.tup (nW z ++ [W.int (y : Nat)])) st else .err) X P = _
        rw [if_pos (by have := lens z hz; rw [nW_len, List.length_singleton]; omega)]; rfl
      refine ⟨_, fun _ => rfl, ?_, fun us => run_eq ?_⟩
      · show W.pures (nW z ++ nW [y]) = true
        rw [← nW_append]; exact nW_pure _
      · exists wipeL, ad
        first | rfl | trivial | exact ⟨rfl, rfl⟩
    · rw [show (((subsF [[]] (l.take i)).map grpW).map fun w => (match w with | .tup ws => W.tup (ws ++ [.int (y : Nat)]) | _ => .non)) = ((subsF [[]] (l.take i)).map fun a => a ++ [y]).map grpW from snoc_map y _]
      have gj2 : (C ((c ++ g) ++ .lst (((subsF [[]] (l.take i)).map fun a => a ++ [y]).map grpW) :: [])).c[c.length + j]? = some (.lst ((subsF [[]] (l.take i)).map grpW)) := get_app gj
      have gp : (C ((c ++ g) ++ .lst (((subsF [[]] (l.take i)).map fun a => a ++ [y]).map grpW) :: [])).c[(c ++ g).length]? = some (.lst (((subsF [[]] (l.take i)).map fun a => a ++ [y]).map grpW)) := c_get
      rw [v_addLs gj2 gp (by simp only [List.length_map]; omega)]
      refine ⟨g ++ [.lst (((subsF [[]] (l.take i)).map fun a => a ++ [y]).map grpW), .lst ((subsF [[]] (l.take (i + 1))).map grpW)], g.length + 1, some (.int (y : Nat)), e, ?_, ?_, ?_⟩
      · rw [List.getElem?_append_right (by omega)]
        have : g.length + 1 - g.length = 1 := by omega
        rw [this]; rfl
      · have : (C ((c ++ g) ++ .lst (((subsF [[]] (l.take i)).map fun a => a ++ [y]).map grpW) :: [])).c.length = c.length + (g.length + 1) := by
          show ((c ++ g) ++ _).length = _
          rw [List.length_append, List.length_append, Nat.add_assoc]; rfl
        rw [this]
      · rw [tk, subs_snoc, List.map_append]
        simp [Sto.push]
  · rintro l1 st ⟨g, j, a, e, hg, rfl, rfl⟩
    rw [nW_len, List.take_length] at hg
    exists k_loc
    have := c_trimL (c := c) (g := g) (j := j) (P := fun b t => b = W.ref c.length ∧ t = C (c ++ .lst ((subsF [[]] l).map grpW) :: [])) (X := nX) hg (grps_pure _)
    exact (show _ = _ from this).mpr ⟨rfl, rfl⟩
end
end LW

set_option Elab.async false
set_option linter.all false
set_option maxRecDepth 100000
set_option maxHeartbeats 4000000
namespace LW
open PySem PySem.W RB L2
local macro_rules | `(tactic| exists $es,*) => `(tactic| simp (config := {decide := false, implicitDefEqProofs := false}) only [k_ok, k_exc, k_err, k_ite, k_iteS, k_nx, k_rt, k_loc, k_lit, k_nil, k_cons, k_tup, k_lst, k_bin, k_eB, k_eU, k_call, k_tru, k_not, k_and, k_or, k_if, k_eAnd, k_eOr, k_eNot, k_val, k_chain, k_sNil, k_sSeq, k_sSet, tgName, tgTup, tgCons, tgNil, Option.bind_some, k_sDrop, k_sRet, k_sRetN, k_sIf, k_sBreak, k_sCont, k_sFor, k_sRaise, k_sTry, k_defn, k_vSeq, k_rng1, k_comp,
  v_add, v_sub, v_mul, v_mod, v_div, v_lt, v_le, v_gt, v_ge, v_eq, v_ne, v_neg, v_int, v_min,
  List.map_cons, List.map_nil, List.length_cons, List.length_nil, List.replicate_succ, List.replicate_zero, List.cons_append, List.nil_append, List.append_nil, List.getElem?_cons_succ, List.getElem?_cons_zero, List.set_cons_succ, List.set_cons_zero,
  Nat.reduceAdd, Nat.reduceSub, Nat.zero_add, decide_eq_true_eq, Bool.not_eq_true', decide_eq_false_iff_not, Bool.true_eq_false, Bool.false_eq_true, if_true, if_false, ite_true, ite_false, ite_self, reduceIte, Nat.reduceLeDiff, true_and, and_true, $[$es:term],*])
section
variable {X : XP} {P : W → Sto → Prop}
def notB (gr : List Nat) (w : W) : Bool := match w with | .int i => !(gr.contains i.toNat) | _ => false
theorem filtB (gr l : List Nat) : ((nW l).filter (notB gr)).map (fun w => w) = nW (l.filter fun y => !(gr.contains y)) := by
  rw [List.map_id']
  unfold nW
  rw [List.filter_map]
  rfl
theorem without_ok {c : List Cell} {x : W} {l gr : List Nat} (hx : Sq c x l) (h4 : l.length ≤ 4) : F__without [x, grpW gr] (C c) = .ok (.ref c.length) (C (c ++ .lst (nW (l.filter fun y => !(gr.contains y))) :: [])) := by
  refine run_eq ?_
  unfold F__without
  obtain ⟨s, hat, hsrc⟩ := hx.src
  have vs : ∀ (X : XP) (P : Src → Sto → Prop), Ok (vSeq (eLoc 0) [some x, some (grpW gr), none] (C c)) X P = P s (C c) := fun X P => by
    have := hsrc 0 [some x, some (grpW gr), none] X P [] rfl
    rwa [List.append_nil] at this
  rw [k_defn, k_sRet, k_comp]
  rw [show Ok (vSeq (eLoc 0) ([x, grpW gr].map some ++ List.replicate (3 - [x, grpW gr].length) none) (C c)) _ _ = _ from vs _ _]
  refine cl_pure (c := c) (ws := nW l) (fun us i => hat _ i) (notB gr) (fun w => w) (by rw [nW_len]; omega) (fun w hw => ?_) ?_
  · obtain ⟨y, hy, rfl⟩ := List.mem_map.mp hw
    refine ⟨_, fun _ => rfl, fun us => run_eq ?_, fun _ => ⟨rfl, fun us => rfl⟩⟩
    have ni : ∀ (st : Sto), wNotIn (.int (y : Nat)) (grpW gr) st = .ok (.bl (!(gr.contains y))) st := fun st => v_notInN rfl
    exists wipeL, kk (ni _)
    trivial
  · rw [filtB]
    have := c_trimL (c := c) (g := [Cell.lst (nW (l.filter fun y => !(gr.contains y)))]) (j := 0) (P := fun b t => b = W.ref c.length ∧ t = C (c ++ .lst (nW (l.filter fun y => !(gr.contains y))) :: [])) (X := nX) rfl (nW_pure _)
    exact (show _ = _ from this).mpr ⟨rfl, rfl⟩
theorem may_ok {c : List Cell} (n : Nat) (t : Bool) : F__may_come_level [.int (n : Nat), .bl t] (C c) = .ok (.bl (decide (0 < n) && (t || decide (n = 1)))) (C c) := by
  refine run_eq ?_
  unfold F__may_come_level
  exists truth
  by_cases e : ((n : Nat) : Int) = 1
  · have e2 : n = 1 := by omega
    subst e2
    rw [if_pos e, c_trim0 rfl]
    exact ⟨by cases t <;> rfl, rfl⟩
  · rw [if_neg e]
    have e2 : ¬ n = 1 := by omega
    cases t with
    | true =>
      rw [if_pos rfl, c_trim0 rfl]
      refine ⟨?_, rfl⟩
      by_cases h : (1 : Int) < (n : Nat)
      · rw [decide_eq_true h, decide_eq_true (by omega : 0 < n)]; rfl
      · rw [decide_eq_false h, decide_eq_false (by omega : ¬ 0 < n)]; rfl
    | false =>
      rw [if_neg (by decide), c_trim0 rfl, decide_eq_false e2]
      exact ⟨by simp, rfl⟩
def consO (gr : List Nat) (w : W) : W := match w with | .tup r => .tup (grpW gr :: r) | _ => .non
theorem consO_map (gr : List Nat) (l : List (List (List Nat))) : (l.map outW).map (consO gr) = (l.map fun r => gr :: r).map outW := by
  rw [List.map_map, List.map_map]; rfl
theorem ext_at {us vs : List W} {c g : List Cell} {m : Nat} (hm : (c ++ .lst us :: g)[m]? = some (.lst vs)) (hv : W.pures vs = true) (hl : us.length + vs.length ≤ 1000000) : fExtend (.ref c.length) [.ref m] (C (c ++ .lst us :: g)) = .ok .non (C (c ++ .lst (us ++ vs) :: g)) := by
  unfold fExtend
  have e : (C (c ++ .lst us :: g)).c[c.length]? = some (.lst us) := c_get
  have e2 : (C (c ++ .lst us :: g)).c[m]? = some (.lst vs) := hm
  dsimp only
  rw [e, e2]
  dsimp only
  rw [if_pos hl, W.pures_low hv, c_put]
theorem porders_ok : ∀ (d : Nat) (l : List Nat) (t : Bool) (c : List Cell) (x : W), Sq c x l → l.length < d → d ≤ 6 → l.length ≤ 4 → F__orders d [x, .bl t] (C c) = .ok (.ref c.length) (C (c ++ .lst ((ordL d l t).map outW) :: []))
  | 0, l, t, c, x, _, h, _, _ => by omega
  | d + 1, l, t, c, x, hx, h, hd, h4 => by
    refine run_eq ?_
    unfold F__orders
    have ln : ∀ (X : XP) (P : W → Sto → Prop), Ok (fLen [x] (C c)) X P = P (.int (l.length : Nat)) (C c) := fun X P => hx.len
    exists ln
    by_cases h0 : ((l.length : Nat) : Int) = 0
    · have hl : l = [] := List.length_eq_zero_iff.mp (by omega)
      subst hl
      exists h0, (by decide : (1 : Nat) ≤ 1000)
      have := c_trimL (c := c) (g := [Cell.lst [.tup []]]) (j := 0) (P := fun b t' => b = W.ref c.length ∧ t' = C (c ++ .lst ((ordL (d + 1) [] t).map outW) :: [])) (X := nX) rfl rfl
      exact (show _ = _ from this).mpr ⟨rfl, rfl⟩
    · have hne : l.isEmpty = false := by cases l with | nil => exact absurd rfl h0 | cons a r => rfl
      have sb := psubs_ok (c := c ++ [Cell.lst []]) (x := x) hx.app h4
      have gl : RB.getL (C ((c ++ [Cell.lst []]) ++ [Cell.lst ((subsF [[]] l).map grpW)])) (c ++ [Cell.lst []]).length = some ((subsF [[]] l).map grpW) := by unfold RB.getL; rw [c_get]
      exists h0, (by decide : (0 : Nat) ≤ 1000), Sto.push, kk sb, gl
      have cap : ∀ i, (((subsF [[]] l).take i).flatMap (ordF d l t)).length ≤ 16 * 16 ^ 3 := fun i => by
        have h1 := ordF_le (d := d) (m := 16 ^ 3) (l := l) (t := t) (fun gr hg h0 => by
          have q := filt_lt hg h0
          have q2 := ord_le d (l.filter fun y => !(gr.contains y)) t (by omega)
          exact Nat.le_trans q2 (Nat.pow_le_pow_right (by decide) (by omega))) ((subsF [[]] l).take i) fun _ h => List.mem_of_mem_take h
        have h3 : ((subsF [[]] l).take i).length ≤ 16 := by rw [List.length_take]; have := sub16 h4; omega
        exact Nat.le_trans h1 (Nat.mul_le_mul_right _ h3)
      have sbp : ∀ (M : List (List (List Nat))) (g : List Cell), (C ((c ++ .lst (M.map outW) :: .lst ((subsF [[]] l).map grpW) :: g))).c[c.length + 1]? = some (.lst ((subsF [[]] l).map grpW)) := fun M g => by
        show (c ++ _ :: _ :: g)[c.length + 1]? = _
        rw [List.getElem?_append_right (by omega), Nat.add_sub_cancel_left]; rfl
      have n1 : (c ++ [Cell.lst []]).length = c.length + 1 := by rw [List.length_append]; rfl
      rw [n1]
      refine loop_fix ((subsF [[]] l).map grpW) (fun i l1 st => ∃ (g : List Cell) (a b : Option W), l1 = [some x, some (.bl t), some (.ref c.length), a, b] ∧ st = C (c ++ .lst ((((subsF [[]] l).take i).flatMap (ordF d l t)).map outW) :: .lst ((subsF [[]] l).map grpW) :: g)) ?_ ?_ ?_ 1000000 0 _ _ (by rw [List.length_map]; have := sub16 h4; omega) (Nat.zero_le _) ⟨[], none, none, rfl, by simp⟩
      · rintro i l1 st ⟨g, a, b, rfl, rfl⟩
        show (RB.getL _ _).map _ = _
        unfold RB.getL
        rw [sbp]; rfl
      · rintro i w l1 st hw ⟨g, a, b, rfl, rfl⟩
        rw [List.getElem?_map] at hw
        cases ex : (subsF [[]] l)[i]? with
        | none => rw [ex] at hw; cases hw
        | some gr =>
          rw [ex] at hw
          cases hw
          refine ⟨_, rfl, ?_⟩
          have hgr := List.mem_of_getElem? ex
          have tk : (subsF [[]] l).take (i + 1) = (subsF [[]] l).take i ++ [gr] := by rw [List.take_succ, ex]; rfl
          have hcap := cap (i + 1)
          rw [tk, List.flatMap_append, List.flatMap_cons, List.flatMap_nil, List.append_nil] at hcap
          have goal : ∀ (M : List (List (List Nat))), M = ((subsF [[]] l).take i).flatMap (ordF d l t) → ((subsF [[]] l).take (i + 1)).flatMap (ordF d l t) = M ++ ordF d l t gr := fun M hM => by
            rw [tk, List.flatMap_append, List.flatMap_cons, List.flatMap_nil, List.append_nil, hM]
          generalize hM : ((subsF [[]] l).take i).flatMap (ordF d l t) = M at hcap ⊢
          rw [goal M hM.symm]
          have lg : ∀ (st : Sto) (X : XP) (P : W → Sto → Prop), Ok (fLen [grpW gr] st) X P = P (.int (gr.length : Nat)) st := fun st X P => by
            rw [v_lenL (by intro z h; cases h) (ws := nW gr) rfl, nW_len]
          have my : ∀ (st : List Cell), F__may_come_level [.int (gr.length : Nat), .bl t] (C st) = .ok (.bl (decide (0 < gr.length) && (t || decide (gr.length = 1)))) (C st) := fun st => may_ok _ _
          exists lg, kk (my _), truth
          have hF : ordF d l t gr = if (decide (0 < gr.length) && (t || decide (gr.length = 1))) = true then (ordL d (l.filter fun y => !(gr.contains y)) t).map fun r => gr :: r else [] := rfl
          cases hc : (decide (0 < gr.length) && (t || decide (gr.length = 1))) with
          | false =>
            rw [hc, if_neg (by decide)] at hF
            rw [hF, List.append_nil, if_neg (by decide)]
            exact ⟨g, _, _, rfl, rfl⟩
          | true =>
            rw [hc, if_pos rfl] at hF
            rw [hF] at hcap ⊢
            rw [if_pos rfl]
            have hpos : 0 < gr.length := by
              simp only [Bool.and_eq_true, decide_eq_true_eq] at hc
              exact hc.1
            have flt := filt_lt hgr hpos
            generalize hD : c ++ .lst (M.map outW) :: .lst ((subsF [[]] l).map grpW) :: g = D
            have hxD : Sq D x l := by rw [← hD]; exact hx.app
            have wo := without_ok (c := D) (gr := gr) hxD h4
            have hord := porders_ok d (l.filter fun y => !(gr.contains y)) t (D ++ [Cell.lst (nW (l.filter fun y => !(gr.contains y)))]) (.ref D.length) (show Sq (D ++ [Cell.lst (nW (l.filter fun y => !(gr.contains y)))]) (.ref D.length) (l.filter fun y => !(gr.contains y)) from c_seq) (by omega) (by omega) (by omega)
            have mlen : ∀ y ∈ ordL d (l.filter fun y => !(gr.contains y)) t, y.length ≤ 6 := fun y hy => Nat.le_trans (ord_len d _ t y hy) (by omega)
            generalize hfl : (l.filter fun y => !(gr.contains y)) = fl at wo hord hcap mlen ⊢
            have gd : ((D ++ [Cell.lst (nW fl)]) ++ .lst ((ordL d fl t).map outW) :: [])[(D ++ [Cell.lst (nW fl)]).length]? = some (.lst ((ordL d fl t).map outW)) := c_get
            have gl2 : RB.getL (C ((D ++ [Cell.lst (nW fl)]) ++ .lst ((ordL d fl t).map outW) :: [])) (D ++ [Cell.lst (nW fl)]).length = some ((ordL d fl t).map outW) := by unfold RB.getL; rw [gd]
            have isl : isL (C D) (.ref c.length) = true := by
              unfold isL
              rw [← hD]
              have e : (C (c ++ .lst (M.map outW) :: .lst ((subsF [[]] l).map grpW) :: g)).c[c.length]? = some (.lst (M.map outW)) := c_get
              dsimp only
              rw [e]
            exists k_eMt, isl, kk wo, kk hord, gl2
            have ol : (ordL d fl t).length ≤ 65536 := by
              rw [List.length_append, List.length_map] at hcap; omega
            refine cl_map (c := (D ++ [Cell.lst (nW fl)]) ++ .lst ((ordL d fl t).map outW) :: []) (ws := (ordL d fl t).map outW) (fun us i => live_at gd i) (consO gr) (by rw [List.length_map]; omega) (fun w hw => ?_) ?_
            · obtain ⟨r, hr, rfl⟩ := List.mem_map.mp hw
              have q := mlen r hr
              have ad : ∀ (st : Sto) (X : XP) (P : W → Sto → Prop), Ok (wAdd (.tup [grpW gr]) (outW r) st) X P = P (outW (gr :: r)) st := fun st X P => by
                show Ok (if ([grpW gr] : List W).length + (r.map grpW).length ≤ 1000000 then Res.ok (W.tup ([grpW gr] ++ r.map grpW)) st else .err) X P = _
                rw [if_pos (by rw [List.length_map, List.length_singleton]; omega)]; rfl
              refine ⟨_, fun _ => rfl, ?_, fun us => run_eq ?_⟩
              · show W.pures ((gr :: r).map grpW) = true
                exact grps_pure _
              · exists wipeL, ad
                first | rfl | trivial | exact ⟨rfl, rfl⟩
            · rw [consO_map]
              have e1 : ((D ++ [Cell.lst (nW fl)]) ++ .lst ((ordL d fl t).map outW) :: []) ++ .lst (((ordL d fl t).map fun r => gr :: r).map outW) :: [] = c ++ .lst (M.map outW) :: (.lst ((subsF [[]] l).map grpW) :: (g ++ [.lst (nW fl), .lst ((ordL d fl t).map outW), .lst (((ordL d fl t).map fun r => gr :: r).map outW)])) := by rw [← hD]; simp
              have e2 : (c ++ .lst (M.map outW) :: (.lst ((subsF [[]] l).map grpW) :: (g ++ [.lst (nW fl), .lst ((ordL d fl t).map outW), .lst (((ordL d fl t).map fun r => gr :: r).map outW)])))[((D ++ [Cell.lst (nW fl)]) ++ [Cell.lst ((ordL d fl t).map outW)]).length]? = some (.lst (((ordL d fl t).map fun r => gr :: r).map outW)) := by
                rw [← e1]; exact c_get
              rw [e1]
              have ex := ext_at (c := c) (us := M.map outW) e2 (outs_pure _) (by simp only [List.length_map, List.length_append] at hcap ⊢; omega)
              rw [kk ex]
              refine ⟨g ++ [.lst (nW fl), .lst ((ordL d fl t).map outW), .lst (((ordL d fl t).map fun r => gr :: r).map outW)], some (grpW gr), b, rfl, ?_⟩
              rw [List.map_append]
      · rintro l1 st ⟨g, a, b, rfl, rfl⟩
        rw [List.length_map, List.take_length]
        exists k_loc
        have := c_trimL (c := c) (g := .lst (((subsF [[]] l).flatMap (ordF d l t)).map outW) :: .lst ((subsF [[]] l).map grpW) :: g) (j := 0) (P := fun b t' => b = W.ref c.length ∧ t' = C (c ++ .lst ((ordL (d + 1) l t).map outW) :: [])) (X := nX) rfl (outs_pure _)
        refine (show _ = _ from this).mpr ⟨rfl, ?_⟩
        rw [ord_eq hne]
end
end LW

set_option Elab.async false
set_option linter.all false
set_option maxRecDepth 100000
set_option maxHeartbeats 4000000
namespace LW
open PySem PySem.W RB L2
local macro_rules | `(tactic| exists $es,*) => `(tactic| simp (config := {decide := false, implicitDefEqProofs := false}) only [k_ok, k_exc, k_err, k_ite, k_iteS, k_nx, k_rt, k_loc, k_lit, k_nil, k_cons, k_tup, k_lst, k_bin, k_eB, k_eU, k_call, k_tru, k_not, k_and, k_or, k_if, k_eAnd, k_eOr, k_eNot, k_val, k_chain, k_sNil, k_sSeq, k_sSet, tgName, tgTup, tgCons, tgNil, Option.bind_some, k_sDrop, k_sRet, k_sRetN, k_sIf, k_sBreak, k_sCont, k_sFor, k_sRaise, k_sTry, k_defn, k_vSeq, k_rng1, k_comp,
  v_add, v_sub, v_mul, v_mod, v_div, v_lt, v_le, v_gt, v_ge, v_eq, v_ne, v_neg, v_int, v_min,
  List.map_cons, List.map_nil, List.length_cons, List.length_nil, List.replicate_succ, List.replicate_zero, List.cons_append, List.nil_append, List.append_nil, List.getElem?_cons_succ, List.getElem?_cons_zero, List.set_cons_succ, List.set_cons_zero,
  Nat.reduceAdd, Nat.reduceSub, Nat.zero_add, decide_eq_true_eq, Bool.not_eq_true', decide_eq_false_iff_not, Bool.true_eq_false, Bool.false_eq_true, if_true, if_false, ite_true, ite_false, ite_self, reduceIte, Nat.reduceLeDiff, true_and, and_true, $[$es:term],*])
def isN : List W → List Nat → Bool
  | [], [] => true
  | .int i :: r, k :: s => decide (i = (k : Int)) && isN r s
  | _, _ => false
theorem isN_eq : ∀ {ws : List W} {l : List Nat}, isN ws l = true → ws = nW l
  | [], [], _ => rfl
  | [], _ :: _, h => by cases h
  | .int i :: r, k :: s, h => by
    unfold isN at h
    simp only [Bool.and_eq_true, decide_eq_true_eq] at h
    rw [isN_eq h.2, h.1]; rfl
  | .int _ :: _, [], h => by cases h
  | .non :: _, _, h => by unfold isN at h; cases h
  | .bl _ :: _, _, h => by unfold isN at h; cases h
  | .str _ :: _, _, h => by unfold isN at h; cases h
  | .tup _ :: _, _, h => by unfold isN at h; cases h
  | .ref _ :: _, _, h => by unfold isN at h; cases h
def alwN (n : Nat) (A : List Nat) : List Nat := (List.range n).filter fun k => !(A.contains k)
def runN (n : Nat) (A ch : List Nat) : List Nat := (List.range n).filter fun k => !(A.contains k) || ch.contains k
def runF (n : Nat) (t : Bool) (A ch : List Nat) : List (List (List Nat)) := if 0 < (runN n A ch).length then ordL 6 (runN n A ch) t else []
def rawP (n : Nat) (t : Bool) (A : List Nat) : List (List (List Nat)) := (subsF [[]] A).flatMap (runF n t A)
def sortC (n : Nat) (A : List Nat) : Bool := (subsF [[]] A).all fun ch => match sortRes (nW (alwN n A ++ ch)) with | some ws => isN ws (runN n A ch) | none => false
theorem sort_all {n : Nat} (h1 : 1 ≤ n) (hn : n ≤ 4) (p : Nat → Bool) : sortC n ((List.range n).filter p) = true := by
  have : n = 1 ∨ n = 2 ∨ n = 3 ∨ n = 4 := by omega
  rcases this with rfl | rfl | rfl | rfl
  · change sortC 1 (List.filter p [0]) = true
    simp only [List.filter]
    cases p 0 <;> decide +kernel
  · change sortC 2 (List.filter p [0, 1]) = true
    simp only [List.filter]
    cases p 0 <;> cases p 1 <;> decide +kernel
  · change sortC 3 (List.filter p [0, 1, 2]) = true
    simp only [List.filter]
    cases p 0 <;> cases p 1 <;> cases p 2 <;> decide +kernel
  · change sortC 4 (List.filter p [0, 1, 2, 3]) = true
    simp only [List.filter]
    cases p 0 <;> cases p 1 <;> cases p 2 <;> cases p 3 <;> decide +kernel
theorem sort_of {n : Nat} (h1 : 1 ≤ n) (hn : n ≤ 4) {f : Nat → Bool} {ch : List Nat} (h : ch ∈ subsF [[]] (absN n f)) : sortRes (nW (alwN n (absN n f) ++ ch)) = some (nW (runN n (absN n f) ch)) := by
  have := List.all_eq_true.mp (sort_all h1 hn f) ch h
  change (match sortRes (nW (alwN n (absN n f) ++ ch)) with | some ws => isN ws (runN n (absN n f) ch) | none => false) = true at this
  cases e : sortRes (nW (alwN n (absN n f) ++ ch)) with
  | none => rw [e] at this; cases this
  | some ws => rw [e] at this; rw [isN_eq this]
theorem rawP_ne {n : Nat} {t : Bool} {A : List Nat} : ∀ o ∈ rawP n t A, o ≠ [] := fun o ho => by
  obtain ⟨ch, _, h⟩ := List.mem_flatMap.mp ho
  unfold runF at h
  split at h
  · rename_i q
    refine ord_ne ?_ o h
    cases e : runN n A ch with
    | nil => rw [e] at q; cases q
    | cons a r => rfl
  · cases h
theorem run75 {n : Nat} (hn : n ≤ 4) (t : Bool) (A ch : List Nat) : (runF n t A ch).length ≤ 75 := by
  unfold runF
  split
  · exact ord75 hn t _
  · exact Nat.zero_le _
theorem flatP {n : Nat} (hn : n ≤ 4) (t : Bool) (A : List Nat) : ∀ l : List (List Nat), (l.flatMap (runF n t A)).length ≤ l.length * 75
  | [] => Nat.zero_le _
  | x :: r => by
    have := flatP hn t A r
    have := run75 hn t A x
    rw [List.flatMap_cons, List.length_append, List.length_cons]; omega
section
variable {c g : List Cell} {X : XP} {P : W → Sto → Prop} {n q : Nat} {t : Bool} {f : Nat → Bool} {cu : List Int}
theorem run_len (A ch : List Nat) : (runN n A ch).length ≤ n := by
  have := List.length_filter_le (fun k => !(A.contains k) || ch.contains k) (List.range n)
  rwa [List.length_range] at this
theorem poutcomes_ok {ws : List W} (h1 : 1 ≤ n) (hn : n ≤ 4) (hq : c[q]? = some (raceC n t f cu)) (hws : sortRes ((rawP n t (absN n f)).map outW) = some ws) (hwp : W.pures ws = true) : F_outcomes [.ref q] (C c) = .ok (.tup ws) (C c) := by
  refine run_eq ?_
  unfold F_outcomes
  have abl : (absN n f).length ≤ 4 := by
    have := List.length_filter_le f (List.range n)
    rw [List.length_range] at this
    show ((List.range n).filter f).length ≤ 4
    omega
  have nb : -1000000 ≤ (n : Int) ∧ (n : Int) ≤ 1000000 := by omega
  generalize hT : sSeq (sSet (tgName 2) (eLst evNil)) _ = T
  exists kk (need_ok (c := c) hq 1), prop_ok hq (runners_at hq), nb, Int.toNat_natCast
  rw [upN]
  refine cl_pure (c := c) (ws := nW (List.range n)) (fun _ _ => rfl) (notB (absN n f)) (fun w => w) (by rw [nW_len, List.length_range]; omega) (fun w hw => ?_) ?_
  · obtain ⟨y, hy, rfl⟩ := List.mem_map.mp hw
    refine ⟨_, fun _ => rfl, fun us => run_eq ?_, fun _ => ⟨rfl, fun us => rfl⟩⟩
    have ni : wNotIn (.int (y : Nat)) (.tup (absL n f)) (C (c ++ .lst us :: [])) = .ok (.bl (!((absN n f).contains y))) (C (c ++ .lst us :: [])) := v_notInN rfl
    have hq2 : (c ++ .lst us :: [])[q]? = some (raceC n t f cu) := get_app hq
    exists wipeL, prop_ok hq2 (absent_at hq2), kk ni
    trivial
  · rw [filtB]
    subst hT
    change OkS ((sSeq (sSet (tgName 2) (eLst evNil)) _) _ (C (c ++ .lst (nW (alwN n (absN n f))) :: []))) _
    generalize hE : c ++ .lst (nW (alwN n (absN n f))) :: [] = E
    have hEl : E.length = c.length + 1 := by rw [← hE, List.length_append]; rfl
    have hEq : E[q]? = some (raceC n t f cu) := by rw [← hE]; exact get_app hq
    have hEa : E[c.length]? = some (.lst (nW (alwN n (absN n f)))) := by rw [← hE]; exact c_get
    have hback : ∀ g2 : List Cell, c ++ (.lst (nW (alwN n (absN n f))) :: g2) = E ++ g2 := fun g2 => by rw [← hE]; simp
    have hq1 : (E ++ [Cell.lst []])[q]? = some (raceC n t f cu) := get_app hEq
    have ab : seqOf (C (E ++ [Cell.lst []])) (.tup (absL n f)) = some (nW (absN n f)) := rfl
    have sb := psubs_ok (c := E ++ [Cell.lst []]) (x := .tup (absL n f)) (l := absN n f) ab abl
    have gl : RB.getL (C ((E ++ [Cell.lst []]) ++ [Cell.lst ((subsF [[]] (absN n f)).map grpW)])) (E ++ [Cell.lst []]).length = some ((subsF [[]] (absN n f)).map grpW) := by unfold RB.getL; rw [c_get]
    exists (by decide : (0 : Nat) ≤ 1000), Sto.push, prop_ok hq1 (absent_at hq1), kk sb, gl
    have n1 : (E ++ [Cell.lst []]).length = E.length + 1 := by rw [List.length_append]; rfl
    rw [n1]
    have cap : ∀ i, (((subsF [[]] (absN n f)).take i).flatMap (runF n t (absN n f))).length ≤ 2000 := fun i => by
      have h1 := flatP hn t (absN n f) ((subsF [[]] (absN n f)).take i)
      have h2 : ((subsF [[]] (absN n f)).take i).length ≤ 16 := by rw [List.length_take]; have := sub16 abl; omega
      omega
    refine loop_fix ((subsF [[]] (absN n f)).map grpW) (fun i l1 st => ∃ (g : List Cell) (a b e : Option W), l1 = [some (.ref q), some (.ref c.length), some (.ref E.length), a, b, e] ∧ st = C (E ++ .lst ((((subsF [[]] (absN n f)).take i).flatMap (runF n t (absN n f))).map outW) :: .lst ((subsF [[]] (absN n f)).map grpW) :: g)) ?_ ?_ ?_ 1000000 0 _ _ (by rw [List.length_map]; have := sub16 abl; omega) (Nat.zero_le _) ⟨[], none, none, none, rfl, by simp⟩
    · rintro i l1 st ⟨g, a, b, e, rfl, rfl⟩
      show (RB.getL _ _).map _ = _
      unfold RB.getL
      rw [show (C (E ++ .lst ((((subsF [[]] (absN n f)).take i).flatMap (runF n t (absN n f))).map outW) :: .lst ((subsF [[]] (absN n f)).map grpW) :: g)).c[E.length + 1]? = some (.lst ((subsF [[]] (absN n f)).map grpW)) by
        show (E ++ _ :: _ :: g)[E.length + 1]? = _
        rw [List.getElem?_append_right (by omega), Nat.add_sub_cancel_left]; rfl]
      rfl
    · rintro i w l1 st hw ⟨g, a, b, e, rfl, rfl⟩
      rw [List.getElem?_map] at hw
      cases ex : (subsF [[]] (absN n f))[i]? with
      | none => rw [ex] at hw; cases hw
      | some ch =>
        rw [ex] at hw
        cases hw
        refine ⟨_, rfl, ?_⟩
        have hch := List.mem_of_getElem? ex
        have tk : (subsF [[]] (absN n f)).take (i + 1) = (subsF [[]] (absN n f)).take i ++ [ch] := by rw [List.take_succ, ex]; rfl
        have hcap := cap (i + 1)
        rw [tk, List.flatMap_append, List.flatMap_cons, List.flatMap_nil, List.append_nil] at hcap
        rw [tk, List.flatMap_append, List.flatMap_cons, List.flatMap_nil, List.append_nil]
        generalize hM : ((subsF [[]] (absN n f)).take i).flatMap (runF n t (absN n f)) = M at hcap ⊢
        have hso := sort_of h1 hn hch
        have chl : ch.length ≤ 4 := by
          have := subs_len (absN n f) [[]] 0 (fun z hz => by rw [List.mem_singleton.mp hz]; exact Nat.le_refl _) ch hch
          omega
        have all4 : (alwN n (absN n f)).length ≤ 4 := by
          have := List.length_filter_le (fun k => !((absN n f).contains k)) (List.range n)
          rw [List.length_range] at this
          show ((List.range n).filter _).length ≤ 4
          omega
        generalize hD : E ++ .lst (M.map outW) :: .lst ((subsF [[]] (absN n f)).map grpW) :: g = D
        have hDq : D[q]? = some (raceC n t f cu) := by rw [← hD]; exact get_app hEq
        have hDa : D[c.length]? = some (.lst (nW (alwN n (absN n f)))) := by rw [← hD]; exact get_app hEa
        have fl : ∀ (X : XP) (P : W → Sto → Prop), Ok (fList [grpW ch] (C D)) X P = P (.ref D.length) (C (D ++ [Cell.lst (nW ch)])) := fun X P => rfl
        have g1 : (C (D ++ [Cell.lst (nW ch)])).c[c.length]? = some (.lst (nW (alwN n (absN n f)))) := get_app hDa
        have g2 : (C (D ++ [Cell.lst (nW ch)])).c[D.length]? = some (.lst (nW ch)) := c_get
        have ad : ∀ (X : XP) (P : W → Sto → Prop), Ok (wAdd (.ref c.length) (.ref D.length) (C (D ++ [Cell.lst (nW ch)]))) X P = P (.ref (D ++ [Cell.lst (nW ch)]).length) (C ((D ++ [Cell.lst (nW ch)]) ++ [Cell.lst (nW (alwN n (absN n f) ++ ch))])) := fun X P => by
          rw [v_addLs g1 g2 (by rw [nW_len, nW_len]; omega), ← nW_append]; rfl
        generalize hD2 : (D ++ [Cell.lst (nW ch)]) ++ [Cell.lst (nW (alwN n (absN n f) ++ ch))] = D2 at ad
        have gl3 : RB.getL (C D2) (D ++ [Cell.lst (nW ch)]).length = some (nW (alwN n (absN n f) ++ ch)) := by unfold RB.getL; rw [← hD2, c_get]
        have srt : ∀ (X : XP) (P : W → Sto → Prop), Ok (fSortD [.ref (D ++ [Cell.lst (nW ch)]).length] (C D2)) X P = P (.ref D2.length) (C (D2 ++ [Cell.lst (nW (runN n (absN n f) ch))])) := fun X P => by rw [v_sort gl3 hso]; rfl
        have lr : ∀ (X : XP) (P : W → Sto → Prop), Ok (fLen [.ref D2.length] (C (D2 ++ [Cell.lst (nW (runN n (absN n f) ch))]))) X P = P (.int ((runN n (absN n f) ch).length : Nat)) (C (D2 ++ [Cell.lst (nW (runN n (absN n f) ch))])) := fun X P => by
          rw [v_lenL (by intro z h; cases h) (c_seq (ws := nW (runN n (absN n f) ch))), nW_len]
        have rl4 := Nat.le_trans (run_len (n := n) (absN n f) ch) hn
        have hR : runF n t (absN n f) ch = if 0 < (runN n (absN n f) ch).length then ordL 6 (runN n (absN n f) ch) t else [] := rfl
        have hD2l : ∃ g3, D2 = E ++ .lst (M.map outW) :: (.lst ((subsF [[]] (absN n f)).map grpW) :: g3) := ⟨g ++ [.lst (nW ch), .lst (nW (alwN n (absN n f) ++ ch))], by rw [← hD2, ← hD]; simp⟩
        obtain ⟨g3, hg3⟩ := hD2l
        exists fl, ad, srt, lr
        by_cases h0 : (0 : Int) < ((runN n (absN n f) ch).length : Nat)
        · rw [if_pos (by omega : 0 < (runN n (absN n f) ch).length)] at hR
          rw [hR] at hcap
          rw [if_pos h0, hR]
          have hq5 : (D2 ++ [Cell.lst (nW (runN n (absN n f) ch))])[q]? = some (raceC n t f cu) := by rw [← hD2]; exact get_app (get_app (get_app hDq))
          have hord := porders_ok 6 (runN n (absN n f) ch) t (D2 ++ [Cell.lst (nW (runN n (absN n f) ch))]) (.ref D2.length) (show Sq (D2 ++ [Cell.lst (nW (runN n (absN n f) ch))]) (.ref D2.length) (runN n (absN n f) ch) from c_seq) (by omega) (by omega) rl4
          have isl : isL (C (D2 ++ [Cell.lst (nW (runN n (absN n f) ch))])) (.ref E.length) = true := by
            unfold isL
            rw [hg3]
            have e : (C ((E ++ .lst (M.map outW) :: (.lst ((subsF [[]] (absN n f)).map grpW) :: g3)) ++ [Cell.lst (nW (runN n (absN n f) ch))])).c[E.length]? = some (.lst (M.map outW)) := get_app c_get
            dsimp only
            rw [e]
          exists k_eMt, isl, prop_ok hq5 (ties_at hq5), kk hord
          have e1 : (D2 ++ [Cell.lst (nW (runN n (absN n f) ch))]) ++ .lst ((ordL 6 (runN n (absN n f) ch) t).map outW) :: [] = E ++ .lst (M.map outW) :: (.lst ((subsF [[]] (absN n f)).map grpW) :: (g3 ++ [.lst (nW (runN n (absN n f) ch)), .lst ((ordL 6 (runN n (absN n f) ch) t).map outW)])) := by rw [hg3]; simp
          have e2 : (E ++ .lst (M.map outW) :: (.lst ((subsF [[]] (absN n f)).map grpW) :: (g3 ++ [.lst (nW (runN n (absN n f) ch)), .lst ((ordL 6 (runN n (absN n f) ch) t).map outW)])))[(D2 ++ [Cell.lst (nW (runN n (absN n f) ch))]).length]? = some (.lst ((ordL 6 (runN n (absN n f) ch) t).map outW)) := by
            rw [← e1]; exact c_get
          rw [e1]
          have ex := ext_at (c := E) (us := M.map outW) e2 (outs_pure _) (by simp only [List.length_map, List.length_append] at hcap ⊢; omega)
          rw [kk ex]
          refine ⟨g3 ++ [.lst (nW (runN n (absN n f) ch)), .lst ((ordL 6 (runN n (absN n f) ch) t).map outW)], some (grpW ch), some (.ref D2.length), e, rfl, ?_⟩
          rw [List.map_append]
        · rw [if_neg (by omega : ¬ 0 < (runN n (absN n f) ch).length)] at hR
          rw [if_neg h0, hR, List.append_nil]
          refine ⟨g3 ++ [.lst (nW (runN n (absN n f) ch))], some (grpW ch), some (.ref D2.length), e, rfl, ?_⟩
          rw [hg3]; simp
    · rintro l1 st ⟨g, a, b, e, rfl, rfl⟩
      rw [List.length_map, List.take_length]
      have gj : RB.getL (C (E ++ .lst ((rawP n t (absN n f)).map outW) :: .lst ((subsF [[]] (absN n f)).map grpW) :: g)) E.length = some ((rawP n t (absN n f)).map outW) := by unfold RB.getL; rw [c_get]
      exists k_loc
      change Ok (fSortD [.ref E.length] (C (E ++ .lst ((rawP n t (absN n f)).map outW) :: .lst ((subsF [[]] (absN n f)).map grpW) :: g))) _ _
      rw [v_sort gj hws, v_tup (ws := ws) (by unfold Sto.push; exact c_seq)]
      rw [show (C (E ++ .lst ((rawP n t (absN n f)).map outW) :: .lst ((subsF [[]] (absN n f)).map grpW) :: g)).push (.lst ws) = C (c ++ (.lst (nW (alwN n (absN n f))) :: (.lst ((rawP n t (absN n f)).map outW) :: .lst ((subsF [[]] (absN n f)).map grpW) :: g ++ [.lst ws]))) by unfold Sto.push; rw [hback]; simp]
      rw [c_trim (show W.pure (.tup ws) = true from hwp)]
      exact ⟨rfl, rfl⟩
end
end LW

set_option Elab.async false
set_option linter.all false
set_option maxRecDepth 100000
set_option maxHeartbeats 4000000
namespace LW
open PySem PySem.W RB L2
local macro_rules | `(tactic| exists $es,*) => `(tactic| simp (config := {decide := false, implicitDefEqProofs := false}) only [k_ok, k_exc, k_err, k_ite, k_iteS, k_nx, k_rt, k_loc, k_lit, k_nil, k_cons, k_tup, k_lst, k_bin, k_eB, k_eU, k_call, k_tru, k_not, k_and, k_or, k_if, k_eAnd, k_eOr, k_eNot, k_val, k_chain, k_sNil, k_sSeq, k_sSet, tgName, tgTup, tgCons, tgNil, Option.bind_some, k_sDrop, k_sRet, k_sRetN, k_sIf, k_sBreak, k_sCont, k_sFor, k_sRaise, k_sTry, k_defn, k_vSeq, k_rng1, k_comp,
  v_add, v_sub, v_mul, v_mod, v_div, v_lt, v_le, v_gt, v_ge, v_eq, v_ne, v_neg, v_int, v_min,
  List.map_cons, List.map_nil, List.length_cons, List.length_nil, List.replicate_succ, List.replicate_zero, List.cons_append, List.nil_append, List.append_nil, List.getElem?_cons_succ, List.getElem?_cons_zero, List.set_cons_succ, List.set_cons_zero,
  Nat.reduceAdd, Nat.reduceSub, Nat.zero_add, decide_eq_true_eq, Bool.not_eq_true', decide_eq_false_iff_not, Bool.true_eq_false, Bool.false_eq_true, if_true, if_false, ite_true, ite_false, ite_self, reduceIte, Nat.reduceLeDiff, true_and, and_true, $[$es:term],*])
def leD (a b : PyData) : Bool := dataLe false Prod.snd ((W.non, a) : W × PyData) (W.non, b)
theorem zip_map2 {α β γ : Type} (f : α → β) (h : α → γ) : ∀ l : List α, (l.map f).zip (l.map h) = l.map fun x => (f x, h x)
  | [] => rfl
  | x :: r => by rw [List.map_cons, List.map_cons, List.zip_cons_cons, zip_map2 f h r]; rfl
theorem sortRes_out {l : List (List (List Nat))} (h : ∀ o ∈ l, o ≠ []) : sortRes (l.map outW) = some ((sortB (dataLe false Prod.snd) (l.map fun o => (outW o, outD o))).map Prod.fst) := by
  unfold sortRes
  rw [out_dats 6]
  dsimp only
  have hn : (l.map outD).all nestB = true := by
    rw [List.all_map, List.all_eq_true]
    intro o ho
    exact nest_out (h o ho)
  rw [if_pos (by rw [hn]; rfl), zip_map2]
theorem sortB_filter {α : Type} {le : α → α → Bool} (T : TotalLe le) (c : α) : ∀ l : List α, (sortB le l).filter (sameRank le c) = l.filter (sameRank le c)
  | [] => rfl
  | a :: r => by
    show (insB le a (sortB le r)).filter _ = _
    rw [insB_filter T, List.filter_cons, List.filter_cons, sortB_filter T c r]
theorem sortB_pair {α : Type} {le : α → α → Bool} (T : TotalLe le) : ∀ l : List α, (sortB le l).Pairwise (fun a b => le a b = true)
  | [] => .nil
  | a :: r => insB_pair T (sortB_pair T r)
theorem short_of {α : Type} : ∀ {l : List α}, l.Nodup → (∀ a ∈ l, ∀ b ∈ l, a = b) → l = [] ∨ ∃ a, l = [a]
  | [], _, _ => .inl rfl
  | [a], _, _ => .inr ⟨a, rfl⟩
  | a :: b :: r, hn, h => by
    exfalso
    have e := h a (List.mem_cons_self ..) b (List.mem_cons_of_mem _ (List.mem_cons_self ..))
    rw [List.nodup_cons] at hn
    exact hn.1 (by rw [e]; exact List.mem_cons_self ..)
theorem sort_same {l1 l2 : List (List (List Nat))} (h1 : ∀ o ∈ l1, o ≠ []) (h2 : ∀ o ∈ l2, o ≠ []) (hp : l1.Perm l2) (hn : l1.Nodup) (ha : ∀ a ∈ l1, ∀ b ∈ l1, leD (outD a) (outD b) = true → leD (outD b) (outD a) = true → a = b) :
    sortRes (l1.map outW) = sortRes (l2.map outW) := by
  rw [sortRes_out h1, sortRes_out h2]
  congr 2
  have T : TotalLe (dataLe false (Prod.snd : W × PyData → PyData)) := dataLe_total Prod.snd
  rw [sortB_eq T (l2.map fun o => (outW o, outD o))]
  refine PySem.W.sort_unique T (sortB_pair T _) fun c => ?_
  rw [sortB_filter T]
  have pf : ((l1.map fun o => (outW o, outD o)).filter (sameRank (dataLe false Prod.snd) c)).Perm ((l2.map fun o => (outW o, outD o)).filter (sameRank (dataLe false Prod.snd) c)) := (hp.map _).filter _
  rw [List.filter_map, List.filter_map] at pf ⊢
  have nd : (l1.filter ((sameRank (dataLe false Prod.snd) c) ∘ fun o => (outW o, outD o))).Nodup := hn.filter _
  have eqs : ∀ a ∈ l1.filter ((sameRank (dataLe false Prod.snd) c) ∘ fun o => (outW o, outD o)), ∀ b ∈ l1.filter ((sameRank (dataLe false Prod.snd) c) ∘ fun o => (outW o, outD o)), a = b := fun a ha' b hb' => by
    obtain ⟨a1, a2⟩ := List.mem_filter.mp ha'
    obtain ⟨b1, b2⟩ := List.mem_filter.mp hb'
    have s1 : sameRank (dataLe false Prod.snd) c (outW a, outD a) = true := a2
    have s2 : sameRank (dataLe false Prod.snd) c (outW b, outD b) = true := b2
    unfold sameRank at s1 s2
    simp only [Bool.and_eq_true] at s1 s2
    refine ha a a1 b b1 ?_ ?_
    · exact T.trans _ c _ (by first | exact s1.1 | exact s1.2) (by first | exact s2.2 | exact s2.1)
    · exact T.trans _ c _ (by first | exact s2.1 | exact s2.2) (by first | exact s1.2 | exact s1.1)
  rcases short_of nd eqs with e | ⟨a, e⟩
  · rw [e] at pf ⊢
    have := pf.length_eq
    rw [List.map_nil, List.length_nil] at this
    exact (List.length_eq_zero_iff.mp this.symm).symm
  · rw [e] at pf ⊢
    exact (List.perm_singleton.mp pf.symm).symm
end LW

set_option Elab.async false
set_option linter.all false
set_option maxRecDepth 100000
set_option maxHeartbeats 4000000
namespace LW
open PySem PySem.W RB L2
local macro_rules | `(tactic| exists $es,*) => `(tactic| simp (config := {decide := false, implicitDefEqProofs := false}) only [k_ok, k_exc, k_err, k_ite, k_iteS, k_nx, k_rt, k_loc, k_lit, k_nil, k_cons, k_tup, k_lst, k_bin, k_eB, k_eU, k_call, k_tru, k_not, k_and, k_or, k_if, k_eAnd, k_eOr, k_eNot, k_val, k_chain, k_sNil, k_sSeq, k_sSet, tgName, tgTup, tgCons, tgNil, Option.bind_some, k_sDrop, k_sRet, k_sRetN, k_sIf, k_sBreak, k_sCont, k_sFor, k_sRaise, k_sTry, k_defn, k_vSeq, k_rng1, k_comp,
  v_add, v_sub, v_mul, v_mod, v_div, v_lt, v_le, v_gt, v_ge, v_eq, v_ne, v_neg, v_int, v_min,
  List.map_cons, List.map_nil, List.length_cons, List.length_nil, List.replicate_succ, List.replicate_zero, List.cons_append, List.nil_append, List.append_nil, List.getElem?_cons_succ, List.getElem?_cons_zero, List.set_cons_succ, List.set_cons_zero,
  Nat.reduceAdd, Nat.reduceSub, Nat.zero_add, decide_eq_true_eq, Bool.not_eq_true', decide_eq_false_iff_not, Bool.true_eq_false, Bool.false_eq_true, if_true, if_false, ite_true, ite_false, ite_self, reduceIte, Nat.reduceLeDiff, true_and, and_true, $[$es:term],*])
def all149 : List (List (List Nat)) := rawA 4 true [0, 1, 2, 3]
theorem anti_all : all149.all (fun a => all149.all fun b => decide (a = b) || !(leD (outD a) (outD b) && leD (outD b) (outD a))) = true := by decide +kernel
def setC (n : Nat) (t : Bool) (A : List Nat) : Bool := (rawA n t A).isPerm (rawP n t A) && decide (rawA n t A).Nodup && (rawA n t A).all fun o => all149.contains o
theorem set_all {n : Nat} (h1 : 1 ≤ n) (hn : n ≤ 4) (t : Bool) (p : Nat → Bool) : setC n t ((List.range n).filter p) = true := by
  have : n = 1 ∨ n = 2 ∨ n = 3 ∨ n = 4 := by omega
  rcases this with rfl | rfl | rfl | rfl
  · change setC 1 t (List.filter p [0]) = true
    simp only [List.filter]
    cases p 0 <;> cases t <;> decide +kernel
  · change setC 2 t (List.filter p [0, 1]) = true
    simp only [List.filter]
    cases p 0 <;> cases p 1 <;> cases t <;> decide +kernel
  · change setC 3 t (List.filter p [0, 1, 2]) = true
    simp only [List.filter]
    cases p 0 <;> cases p 1 <;> cases p 2 <;> cases t <;> decide +kernel
  · change setC 4 t (List.filter p [0, 1, 2, 3]) = true
    simp only [List.filter]
    cases p 0 <;> cases p 1 <;> cases p 2 <;> cases p 3 <;> cases t <;> decide +kernel
theorem same_of {n : Nat} (h1 : 1 ≤ n) (hn : n ≤ 4) (t : Bool) (f : Nat → Bool) : sortRes ((rawO n t f).map outW) = sortRes ((rawP n t (absN n f)).map outW) := by
  have h := set_all h1 hn t f
  change ((rawO n t f).isPerm (rawP n t (absN n f)) && decide (rawO n t f).Nodup && (rawO n t f).all fun o => all149.contains o) = true at h
  simp only [Bool.and_eq_true, decide_eq_true_eq, List.all_eq_true] at h
  refine sort_same raw_ne rawP_ne (List.isPerm_iff.mp h.1.1) h.1.2 fun a ha b hb q1 q2 => ?_
  have aa := List.all_eq_true.mp (List.all_eq_true.mp anti_all a (by rw [← List.contains_iff_mem]; exact h.2 a ha)) b (by rw [← List.contains_iff_mem]; exact h.2 b hb)
  rw [Bool.or_eq_true, decide_eq_true_eq] at aa
  rcases aa with aa | aa
  · exact aa
  · rw [q1, q2] at aa; cases aa
end LW

set_option Elab.async false
set_option linter.all false
set_option maxRecDepth 100000
set_option maxHeartbeats 4000000
namespace LW
open PySem PySem.W RB L2
local macro_rules | `(tactic| exists $es,*) => `(tactic| simp (config := {decide := false, implicitDefEqProofs := false}) only [k_ok, k_exc, k_err, k_ite, k_iteS, k_nx, k_rt, k_loc, k_lit, k_nil, k_cons, k_tup, k_lst, k_bin, k_eB, k_eU, k_call, k_tru, k_not, k_and, k_or, k_if, k_eAnd, k_eOr, k_eNot, k_val, k_chain, k_sNil, k_sSeq, k_sSet, tgName, tgTup, tgCons, tgNil, Option.bind_some, k_sDrop, k_sRet, k_sRetN, k_sIf, k_sBreak, k_sCont, k_sFor, k_sRaise, k_sTry, k_defn, k_vSeq, k_rng1, k_comp,
  v_add, v_sub, v_mul, v_mod, v_div, v_lt, v_le, v_gt, v_ge, v_eq, v_ne, v_neg, v_int, v_min,
  List.map_cons, List.map_nil, List.length_cons, List.length_nil, List.replicate_succ, List.replicate_zero, List.cons_append, List.nil_append, List.append_nil, List.getElem?_cons_succ, List.getElem?_cons_zero, List.set_cons_succ, List.set_cons_zero,
  Nat.reduceAdd, Nat.reduceSub, Nat.zero_add, decide_eq_true_eq, Bool.not_eq_true', decide_eq_false_iff_not, Bool.true_eq_false, Bool.false_eq_true, if_true, if_false, ite_true, ite_false, ite_self, reduceIte, Nat.reduceLeDiff, true_and, and_true, $[$es:term],*])
section
variable {c g : List Cell} {X : XP} {P : W → Sto → Prop} {q n : Nat} {t : Bool} {f : Nat → Bool} {cu : List Int}
theorem Sq.isq {x : W} {l : List Nat} (h : Sq c x l) : F_is_sequence [x] (C c) = .ok (.bl true) (C c) := by
  cases x with
  | tup ws => exact seq_ok ws
  | ref k =>
    refine run_eq ?_
    unfold F_is_sequence
    have e : tnOf (C c) (.ref k) = some .lst := by
      have h2 : RB.getL (C c) k = some (nW l) := h
      unfold RB.getL at h2
      unfold tnOf
      dsimp only
      split at h2
      · rename_i ws e; rw [e]
      · rename_i ws e; rw [e]
      · cases h2
    exists k_isi, e, ans_list_tuple
    rw [c_trim0 rfl]; exact ⟨rfl, rfl⟩
  | non => unfold Sq seqOf at h; cases h
  | bl b => unfold Sq seqOf at h; cases h
  | int b => unfold Sq seqOf at h; cases h
  | str b => unfold Sq seqOf at h; cases h
def inB (n : Nat) (l : List Nat) : Bool := l.all fun k => decide (k < n)
theorem bools_nW (p : Nat → Bool) (l : List Nat) : bools ((nW l).map fun w => (match w with | .int i => W.bl (p i.toNat) | _ => .non)) = some (l.map p) := bools_map p l
def ltB (n : Nat) (w : W) : W := match w with | .int i => .bl (decide (i.toNat < n)) | _ => .non
theorem ltB_map (n : Nat) (l : List Nat) : bools ((nW l).map (ltB n)) = some (l.map fun k => decide (k < n)) := by
  induction l with
  | nil => rfl
  | cons x r ih =>
    show (bools ((nW r).map (ltB n))).map (decide ((x : Int).toNat < n) :: ·) = _
    rw [ih]; rfl
theorem Sq.two {x : W} {l : List Nat} (h : Sq c x l) : x = .tup (nW l) ∨ ∃ k, x = .ref k ∧ (∀ g, RB.getL (C (c ++ g)) k = some (nW l)) ∧ RB.getL (C c) k = some (nW l) := by
  cases x with
  | tup ws => exact .inl (by unfold Sq seqOf at h; rw [Option.some.inj h])
  | ref k => exact .inr ⟨k, rfl, fun g => (Sq.app h : Sq (c ++ g) (.ref k) l), h⟩
  | non => unfold Sq seqOf at h; cases h
  | bl b => unfold Sq seqOf at h; cases h
  | int b => unfold Sq seqOf at h; cases h
  | str b => unfold Sq seqOf at h; cases h
theorem live2 {k : Nat} {ws : List W} (h : ∀ g, RB.getL (C (c ++ g)) k = some ws) (g : List Cell) (i : Nat) : (Src.live k).at (C (c ++ g)) i = some ws[i]? := by
  show (RB.getL _ _).map _ = _
  rw [h]; rfl
theorem runners_sp {x : W} {l : List Nat} (hx : Sq c x l) (hl : l.length < 1000) (hn : 1 ≤ n) : F__are_runners [x, .int n] (C c) = .ok (.bl (inB n l)) (C c) := by
  refine run_eq ?_
  unfold F__are_runners
  have sq := hx.isq
  have step : ∀ (x : W), ∀ w ∈ nW l, ∃ l1, (∀ st : Sto, tgName 2 w (wipeL [some x, some (.int n), none] [2]) st = some l1) ∧ W.pure (ltB n w) = true ∧ ∀ us, eCall F_is_integer_within [] (evCons (eLoc 2) (evCons (eLit (.int 0)) (evCons (eBin wSub (eLoc 1) (eLit (.int 1))) evNil))) l1 (C (c ++ .lst us :: [])) = .ok (ltB n w) (C (c ++ .lst us :: [])) := fun x w hw => by
    obtain ⟨k, hk, rfl⟩ := List.mem_map.mp hw
    refine ⟨_, fun _ => rfl, rfl, fun us => run_eq ?_⟩
    exists wipeL, kk (within_ok (c := c ++ .lst us :: []) (k : Int) 0 ((n : Int) - 1))
    show W.bl (decide ((0 : Int) ≤ (k : Nat)) && decide (((k : Nat) : Int) ≤ (n : Int) - 1)) = W.bl (decide ((k : Int).toNat < n))
    congr 1
    rw [decide_eq_true (by omega : (0 : Int) ≤ (k : Nat)), Bool.true_and, Int.toNat_natCast]
    by_cases h : k < n
    · rw [decide_eq_true h, decide_eq_true (by omega)]
    · rw [decide_eq_false h, decide_eq_false (by omega)]
  have fin : Ok (fAll [.ref c.length] (C (c ++ .lst ((nW l).map (ltB n)) :: []))) nX fun w st' => Ok (trim c.length w st') nX fun b t => b = W.bl (inB n l) ∧ t = C c := by
    rw [v_all (show RB.getL _ _ = _ from c_seq) (ltB_map n l), c_trim rfl]
    refine ⟨?_, rfl⟩
    congr 1
    unfold inB
    rw [List.all_map]; rfl
  rcases hx.two with rfl | ⟨k, rfl, hg, hg0⟩
  · exists kk sq
    exact cl_map (c := c) (ws := nW l) (fun us i => rfl) (ltB n) (by rw [nW_len]; omega) (step _) fin
  · exists kk sq, hg0
    exact cl_map (c := c) (ws := nW l) (fun us i => live2 hg _ i) (ltB n) (by rw [nW_len]; omega) (step _) fin
theorem eq_lists (a b : List Nat) {st : Sto} {j k : Nat} (hj : RB.getL st j = some (nW a)) (hk : RB.getL st k = some (nW b)) : wEq (.ref j) (.ref k) st = .ok (.bl (decide (a = b))) st := by
  have h := eq_nats a b st
  unfold wEq at h ⊢
  have d : ∀ (j : Nat) (l : List Nat), RB.getL st j = some (nW l) → datOf st (.ref j) = some (.list (l.map fun k : Nat => PyData.int (k : Int))) := fun j l hj => by
    show (match RB.getL st j with | some ws => (W.dats 8 ws).map PyData.list | none => none) = _
    rw [hj]
    show (W.dats 8 (nW l)).map PyData.list = _
    rw [nW_dats]; rfl
  have d2 : ∀ l : List Nat, datOf st (.tup (nW l)) = some (.tuple (l.map fun k : Nat => PyData.int (k : Int))) := fun l => by
    show (W.dats 8 (nW l)).map PyData.tuple = _
    rw [nW_dats]; rfl
  rw [d2, d2] at h
  rw [d j a hj, d k b hk]
  exact h
def nI (l : List Int) : List Nat := l.map Int.toNat
theorem setI_nn : ∀ {l : List Int}, (∀ k ∈ l, 0 ≤ k) → ∀ k ∈ L2.setI l, 0 ≤ k := fun h k hk => h k ((setI_mem _ _).mp hk)
theorem nI_iL {l : List Int} (h : ∀ k ∈ l, 0 ≤ k) : l = iL (nI l) := by
  induction l with
  | nil => rfl
  | cons x r ih =>
    have hx := h x (List.mem_cons_self ..)
    show x :: r = ((x.toNat : Nat) : Int) :: iL (nI r)
    rw [← ih fun k hk => h k (List.mem_cons_of_mem _ hk)]
    congr 1
    omega
def srtN (l : List Nat) : List Nat := nI (L2.setI (iL l))
theorem srtN_nW (l : List Nat) : (L2.setI (iL l)).map .int = nW (srtN l) := by
  have : L2.setI (iL l) = iL (srtN l) := nI_iL (setI_nn fun k hk => by
    obtain ⟨j, _, rfl⟩ := List.mem_map.mp hk
    omega)
  rw [this, ← nW_iL]
theorem asc_sp {x : W} {l : List Nat} (hx : Sq c x l) (hl : l.length < 60) (hn : 1 ≤ n) : F__is_ascending [x, .int n] (C c) = .ok (.bl (inB n l && decide (l = srtN l))) (C c) := by
  refine run_eq ?_
  unfold F__is_ascending
  have rs := runners_sp hx (by omega) hn
  exists kk rs
  cases hb : inB n l with
  | false =>
    rw [if_neg (by decide), c_trim0 rfl]
    exact ⟨rfl, rfl⟩
  | true =>
    rw [if_pos rfl]
    have fl : ∀ (X : XP) (P : W → Sto → Prop), Ok (fList [x] (C c)) X P = P (.ref c.length) (C (c ++ [Cell.lst (nW l)])) := fun X P => by
      unfold fList
      dsimp only
      rw [show seqOf (C c) x = some (nW l) from hx]; rfl
    have hx2 : Sq (c ++ [Cell.lst (nW l)]) x l := hx.app
    have fs : ∀ (X : XP) (P : W → Sto → Prop), Ok (fSortSet x (C (c ++ [Cell.lst (nW l)]))) X P = P (.ref (c ++ [Cell.lst (nW l)]).length) (C ((c ++ [Cell.lst (nW l)]) ++ [Cell.lst (nW (srtN l))])) := fun X P => by
      unfold fSortSet
      have e : (seqOf (C (c ++ [Cell.lst (nW l)])) x).bind intsOf = some (iL l) := by
        rw [show seqOf (C (c ++ [Cell.lst (nW l)])) x = some (nW l) from hx2, nW_iL]; exact ints_of _
      rw [e]
      dsimp only
      rw [if_pos (by rw [iL_len]; exact hl), srtN_nW]; rfl
    have g1 : RB.getL (C ((c ++ [Cell.lst (nW l)]) ++ [Cell.lst (nW (srtN l))])) c.length = some (nW l) := by
      unfold RB.getL; rw [List.append_assoc, show (C (c ++ ([Cell.lst (nW l)] ++ [Cell.lst (nW (srtN l))]))).c[c.length]? = some (Cell.lst (nW l)) from c_get]
    have g2 : RB.getL (C ((c ++ [Cell.lst (nW l)]) ++ [Cell.lst (nW (srtN l))])) (c ++ [Cell.lst (nW l)]).length = some (nW (srtN l)) := by unfold RB.getL; rw [c_get]
    exists fl, fs, kk (eq_lists l (srtN l) g1 g2)
    rw [List.append_assoc, c_trim rfl]
    exact ⟨rfl, rfl⟩
def grpB (n : Nat) (t : Bool) (l : List Nat) : Bool := (inB n l && decide (l = srtN l)) && (decide (0 < l.length) && (t || decide (l.length = 1)))
theorem group_sp {x : W} {l : List Nat} (hx : Sq c x l) (hl : l.length < 60) (hn : 1 ≤ n) (hq : c[q]? = some (raceC n t f cu)) : F__is_group [.ref q, x] (C c) = .ok (.bl (grpB n t l)) (C c) := by
  refine run_eq ?_
  unfold F__is_group
  have as := asc_sp hx hl hn
  have l2 : ∀ (X : XP) (P : W → Sto → Prop), Ok (fLen [x] (C c)) X P = P (.int (l.length : Nat)) (C c) := fun X P => hx.len
  exists prop_ok hq (runners_at hq), kk as
  cases hb : (inB n l && decide (l = srtN l)) with
  | false =>
    rw [if_neg (by decide), c_trim0 rfl]
    refine ⟨?_, rfl⟩
    unfold grpB
    rw [hb]; rfl
  | true =>
    rw [if_pos rfl]
    exists l2, prop_ok hq (ties_at hq), kk (may_ok (c := c) l.length t)
    rw [c_trim0 rfl]
    refine ⟨?_, rfl⟩
    unfold grpB
    rw [hb]; rfl
end
end LW

set_option Elab.async false
set_option linter.all false
set_option maxRecDepth 100000
set_option maxHeartbeats 4000000
namespace LW
open PySem PySem.W RB L2
local macro_rules | `(tactic| exists $es,*) => `(tactic| simp (config := {decide := false, implicitDefEqProofs := false}) only [k_ok, k_exc, k_err, k_ite, k_iteS, k_nx, k_rt, k_loc, k_lit, k_nil, k_cons, k_tup, k_lst, k_bin, k_eB, k_eU, k_call, k_tru, k_not, k_and, k_or, k_if, k_eAnd, k_eOr, k_eNot, k_val, k_chain, k_sNil, k_sSeq, k_sSet, tgName, tgTup, tgCons, tgNil, Option.bind_some, k_sDrop, k_sRet, k_sRetN, k_sIf, k_sBreak, k_sCont, k_sFor, k_sRaise, k_sTry, k_defn, k_vSeq, k_rng1, k_comp,
  v_add, v_sub, v_mul, v_mod, v_div, v_lt, v_le, v_gt, v_ge, v_eq, v_ne, v_neg, v_int, v_min,
  List.map_cons, List.map_nil, List.length_cons, List.length_nil, List.replicate_succ, List.replicate_zero, List.cons_append, List.nil_append, List.append_nil, List.getElem?_cons_succ, List.getElem?_cons_zero, List.set_cons_succ, List.set_cons_zero,
  Nat.reduceAdd, Nat.reduceSub, Nat.zero_add, decide_eq_true_eq, Bool.not_eq_true', decide_eq_false_iff_not, Bool.true_eq_false, Bool.false_eq_true, if_true, if_false, ite_true, ite_false, ite_self, reduceIte, Nat.reduceLeDiff, true_and, and_true, $[$es:term],*])
section
variable {c g : List Cell} {X : XP} {P : W → Sto → Prop} {q n : Nat} {t : Bool} {f : Nat → Bool} {cu : List Int}
theorem seq_app {v : W} {ys : List W} (h : seqOf (C c) v = some ys) : seqOf (C (c ++ g)) v = some ys := by
  unfold seqOf at *
  cases v with
  | tup ws => exact h
  | ref n =>
    dsimp only at h ⊢
    unfold RB.getL at h ⊢
    cases e : c[n]? with
    | none => rw [show (C c).c[n]? = none from e] at h; cases h
    | some d => rw [show (C (c ++ g)).c[n]? = some d from get_app e]; rw [show (C c).c[n]? = some d from e] at h; exact h
  | _ => cases h
theorem seq_two {v : W} {ys : List W} (h : seqOf (C c) v = some ys) : v = .tup ys ∨ ∃ k, v = .ref k ∧ (∀ g, RB.getL (C (c ++ g)) k = some ys) ∧ RB.getL (C c) k = some ys := by
  cases v with
  | tup ws => exact .inl (by unfold seqOf at h; rw [Option.some.inj h])
  | ref k => exact .inr ⟨k, rfl, fun g => (seq_app h : seqOf (C (c ++ g)) (.ref k) = some ys), h⟩
  | non => unfold seqOf at h; cases h
  | bl b => unfold seqOf at h; cases h
  | int b => unfold seqOf at h; cases h
  | str b => unfold seqOf at h; cases h
theorem seq_is {v : W} {ys : List W} (h : seqOf (C c) v = some ys) : F_is_sequence [v] (C c) = .ok (.bl true) (C c) := by
  rcases seq_two h with rfl | ⟨k, rfl, _, hg⟩
  · exact seq_ok ys
  · refine run_eq ?_
    unfold F_is_sequence
    have e : tnOf (C c) (.ref k) = some .lst := by
      unfold RB.getL at hg
      unfold tnOf
      dsimp only
      split at hg
      · rename_i ws e; rw [e]
      · rename_i ws e; rw [e]
      · cases hg
    exists k_isi, e, ans_list_tuple
    rw [c_trim0 rfl]; exact ⟨rfl, rfl⟩
theorem seq_nstr {v : W} {ys : List W} (h : seqOf (C c) v = some ys) : ∀ z, v ≠ .str z := fun z e => by subst e; unfold seqOf at h; cases h
/-- these are sequences of those numbers -/
inductive Sqs (c : List Cell) : List W → List (List Nat) → Prop
  | nil : Sqs c [] []
  | cons {y : W} {x : List Nat} {ys : List W} {xs : List (List Nat)} : Sq c y x → Sqs c ys xs → Sqs c (y :: ys) (x :: xs)
theorem Sqs.app {ys : List W} {xs : List (List Nat)} (h : Sqs c ys xs) : Sqs (c ++ g) ys xs := by
  induction h with
  | nil => exact .nil
  | cons a _ ih => exact .cons a.app ih
theorem Sqs.len {ys : List W} {xs : List (List Nat)} (h : Sqs c ys xs) : ys.length = xs.length := by
  induction h with
  | nil => rfl
  | cons _ _ ih => rw [List.length_cons, List.length_cons, ih]
theorem Sqs.mem {ys : List W} {xs : List (List Nat)} (h : Sqs c ys xs) : ∀ y ∈ ys, ∃ x ∈ xs, Sq c y x := by
  induction h with
  | nil => intro y hy; cases hy
  | cons a _ ih =>
    intro y hy
    rcases List.mem_cons.mp hy with rfl | hy
    · exact ⟨_, List.mem_cons_self .., a⟩
    · obtain ⟨x, hx, hs⟩ := ih y hy
      exact ⟨x, List.mem_cons_of_mem _ hx, hs⟩
def itemsW (c : List Cell) (w : W) : List W := (seqOf (C c) w).getD []
theorem items_sq {y : W} {x : List Nat} (h : Sq c y x) : itemsW c y = nW x := by
  unfold itemsW
  rw [show seqOf (C c) y = some (nW x) from h]; rfl
theorem Sqs.flat {ys : List W} {xs : List (List Nat)} (h : Sqs c ys xs) : (ys.flatMap fun w => (itemsW c w).map fun v => v) = nW xs.flatten := by
  induction h with
  | nil => rfl
  | cons a _ ih => rw [List.flatMap_cons, ih, items_sq a, List.flatten_cons, nW_append, List.map_id']
def natsW (ws : List W) : List Nat := ws.map fun w => match w with | .int i => i.toNat | _ => 0
theorem nats_nW (l : List Nat) : natsW (nW l) = l := by
  unfold natsW nW
  rw [List.map_map]
  conv => rhs; rw [← List.map_id l]
  rfl
theorem Sqs.bools {ys : List W} {xs : List (List Nat)} (p : List Nat → Bool) (h : Sqs c ys xs) : RB.bools (ys.map fun w => .bl (p (natsW (itemsW c w)))) = some (xs.map p) := by
  induction h with
  | nil => rfl
  | cons a _ ih =>
    rw [List.map_cons, items_sq a, nats_nW]
    show (RB.bools _).map _ = _
    rw [ih]; rfl
theorem running_sp {v : W} {ys : List W} {xs : List (List Nat)} (hv : seqOf (C c) v = some ys) (h : Sqs c ys xs) (h1 : xs.flatten.length < 1000) (h2 : xs.length < 1000) (h3 : ∀ x ∈ xs, x.length < 1000) : F_running_in [v] (C c) = .ok (.ref c.length) (C (c ++ .lst (nW xs.flatten) :: [])) := by
  refine run_eq ?_
  unfold F_running_in
  have step : ∀ w ∈ ys, ∃ l1, (∀ st : Sto, tgName 1 w (wipeL [some v, none, none] [1, 2]) st = some l1) ∧ (∃ s1 : Src, (∀ us i, s1.at (C (c ++ .lst us :: [])) i = some (itemsW c w)[i]?) ∧ ∀ us, vSeq (eLoc 1) l1 (C (c ++ .lst us :: [])) = .ok s1 (C (c ++ .lst us :: []))) ∧
      ∀ y ∈ itemsW c w, ∃ l2, (∀ st : Sto, tgName 2 y (wipeL l1 [2]) st = some l2) ∧ W.pure y = true ∧ ∀ us, eLoc 2 l2 (C (c ++ .lst us :: [])) = .ok y (C (c ++ .lst us :: [])) := fun w hw => by
    obtain ⟨x, hx, hs⟩ := h.mem w hw
    refine ⟨_, fun _ => rfl, ?_, fun y hy => ⟨_, fun _ => rfl, ?_, fun us => rfl⟩⟩
    · rw [items_sq hs]
      rcases hs.two with rfl | ⟨k, rfl, hg, _⟩
      · exact ⟨.fix (nW x), fun us i => rfl, fun us => rfl⟩
      · refine ⟨.live k, fun us i => live2 hg _ i, fun us => ?_⟩
        show (match RB.getL (C (c ++ .lst us :: [])) k with | some _ => Res.ok (Src.live k) _ | none => .err) = _
        rw [hg]
    · rw [items_sq hs] at hy
      obtain ⟨k, _, rfl⟩ := List.mem_map.mp hy
      rfl
  have hyl : ∀ w ∈ ys, (itemsW c w).length < 1000000 := fun w hw => by
    obtain ⟨x, hx, hs⟩ := h.mem w hw
    have := h3 x hx
    rw [items_sq hs, nW_len]; omega
  have fin : Ok (trim c.length (.ref c.length) (C (c ++ .lst (ys.flatMap fun w => (itemsW c w).map fun v => v) :: []))) nX fun b t => b = W.ref c.length ∧ t = C (c ++ .lst (nW xs.flatten) :: []) := by
    rw [h.flat]
    have := c_trimL (c := c) (g := [Cell.lst (nW xs.flatten)]) (j := 0) (P := fun b t => b = W.ref c.length ∧ t = C (c ++ .lst (nW xs.flatten) :: [])) (X := nX) rfl (nW_pure _)
    exact (show _ = _ from this).mpr ⟨rfl, rfl⟩
  have lz : (ys.flatMap fun w => (itemsW c w).map fun v => v).length < 1000000 := by rw [h.flat, nW_len]; omega
  have lw : ys.length < 1000000 := by rw [h.len]; omega
  rcases seq_two hv with rfl | ⟨k, rfl, hg, hg0⟩
  · exists k_comp2
    exact cl2_map (c := c) (ws := ys) (fun us i => rfl) (fun w => itemsW c w) (fun _ v => v) lz lw hyl step fin
  · exists k_comp2, hg0
    exact cl2_map (c := c) (ws := ys) (fun us i => live2 hg _ i) (fun w => itemsW c w) (fun _ v => v) lz lw hyl step fin
def nat1 (w : W) : Nat := match w with | .int i => i.toNat | _ => 0
theorem up_bools (hn1 : 1 ≤ n) (hn : n ≤ 4) (F : Nat → Bool) : RB.bools ((upFrom 0 n).map fun w => .bl (F (nat1 w))) = some ((List.range n).map F) := by
  obtain rfl | rfl | rfl | rfl : n = 1 ∨ n = 2 ∨ n = 3 ∨ n = 4 := by omega
  all_goals rfl
def isoB (n : Nat) (t : Bool) (A : List Nat) (o : List (List Nat)) : Bool :=
  !(decide (o.length = 0)) && (o.all (grpB n t) && (decide ((L2.setI (iL o.flatten)).length = o.flatten.length) && (List.range n).all fun k => o.flatten.contains k || A.contains k))
theorem isout_sp {v : W} {ys : List W} {xs : List (List Nat)} (hn1 : 1 ≤ n) (hn : n ≤ 4) (hq : c[q]? = some (raceC n t f cu)) (hv : seqOf (C c) v = some ys) (h : Sqs c ys xs) (h1 : xs.flatten.length < 60) (h2 : xs.length < 60) (h3 : ∀ x ∈ xs, x.length < 60) :
    F_is_outcome [.ref q, v] (C c) = .ok (.bl (isoB n t (absN n f) xs)) (C c) := by
  refine run_eq ?_
  unfold F_is_outcome
  have sq := seq_is hv
  have l2 : ∀ (X : XP) (P : W → Sto → Prop), Ok (fLen [v] (C c)) X P = P (.int (xs.length : Nat)) (C c) := fun X P => by
    rw [v_lenL (seq_nstr hv) hv, h.len]
  have step : ∀ w ∈ ys, ∃ l1, (∀ st : Sto, tgName 3 w (wipeL [some (.ref q), some v, none, none, none] [3]) st = some l1) ∧ W.pure (W.bl (grpB n t (natsW (itemsW c w)))) = true ∧ ∀ us, eCall F__is_group [] (evCons (eLoc 0) (evCons (eLoc 3) evNil)) l1 (C (c ++ .lst us :: [])) = .ok (W.bl (grpB n t (natsW (itemsW c w)))) (C (c ++ .lst us :: [])) := fun w hw => by
    obtain ⟨x, hx, hs⟩ := h.mem w hw
    refine ⟨_, fun _ => rfl, rfl, fun us => run_eq ?_⟩
    have hs2 : Sq (c ++ .lst us :: []) w x := hs.app
    exists wipeL, kk (group_sp hs2 (h3 x hx) hn1 (get_app hq))
    rw [items_sq hs, nats_nW]
  by_cases h0 : xs.length = 0
  · have b1 : (((xs.length : Nat) : Int) = 0) := by omega
    exists kk (need_ok (c := c) hq 1), kk sq, l2, truth, Bool.not_true, b1
    rw [c_trim0 rfl]
    refine ⟨?_, rfl⟩
    unfold isoB
    rw [decide_eq_true h0]; rfl
  have b1 : ¬ (((xs.length : Nat) : Int) = 0) := by omega
  rw [show isoB n t (absN n f) xs = (xs.all (grpB n t) && (decide ((L2.setI (iL xs.flatten)).length = xs.flatten.length) && (List.range n).all fun k => xs.flatten.contains k || (absN n f).contains k)) by unfold isoB; rw [decide_eq_false h0]; rfl]
  have ea : (xs.map (grpB n t)).all id = xs.all (grpB n t) := by rw [List.all_map]; rfl
  have hback : ∀ (b : Bool) (L : List W) (g : List Cell) (P : W → Sto → Prop), Ok (trim c.length (.bl b) (C ((c ++ [Cell.lst L]) ++ g))) nX P = P (.bl b) (C c) := fun b L g P => by rw [List.append_assoc, c_trim rfl]
  have hback0 : ∀ (b : Bool) (L : List W) (P : W → Sto → Prop), Ok (trim c.length (.bl b) (C (c ++ [Cell.lst L]))) nX P = P (.bl b) (C c) := fun b L P => by rw [c_trim rfl]
  have lz : ys.length < 1000000 := by rw [h.len]; omega
  have hbs := h.bools (grpB n t)
  generalize hL : (fun w => W.bl (grpB n t (natsW (itemsW c w)))) = L at *
  have vA : ∀ (X : XP) (P : W → Sto → Prop), Ok (fAll [.ref c.length] (C (c ++ [Cell.lst (ys.map L)]))) X P = P (.bl (xs.all (grpB n t))) (C (c ++ [Cell.lst (ys.map L)])) := fun X P => by
    rw [v_all (show RB.getL _ _ = _ from c_seq) hbs, ea]
  rcases seq_two hv with rfl | ⟨k, rfl, hg, hg0⟩
  · exists kk (need_ok (c := c) hq 1), kk sq, l2, truth, Bool.not_true, b1
    refine cl_map (c := c) (ws := ys) (fun us i => rfl) L lz (by subst hL; exact step) ?_
    rw [vA]
    cases hA : xs.all (grpB n t)
    · show (if false = false then _ else _)
      rw [if_pos rfl, hback0]
      exact ⟨by rw [Bool.false_and], rfl⟩
    · show (if true = false then _ else _)
      rw [if_neg (by decide)]
      have hr := running_sp (c := c ++ [Cell.lst (ys.map L)]) (seq_app hv) h.app (by omega) (by omega) (fun x hx => by have := h3 x hx; omega)
      have hd1 : (c ++ [Cell.lst (ys.map L)])[q]? = some (raceC n t f cu) := get_app hq
      rw [kk hr]
      have hb := fun (b : Bool) (g : List Cell) (P : W → Sto → Prop) => hback b (ys.map L) g P
      clear hback hback0 vA step hbs
      generalize hd : c ++ [Cell.lst (ys.map L)] = d at hr hd1 hb ⊢
      have ls : ∀ (X : XP) (P : W → Sto → Prop), Ok (fLenSet (.ref d.length) (C (d ++ [Cell.lst (nW xs.flatten)]))) X P = P (.int ((L2.setI (iL xs.flatten)).length : Nat)) (C (d ++ [Cell.lst (nW xs.flatten)])) := fun X P => by
        unfold fLenSet
        have e : (seqOf (C (d ++ [Cell.lst (nW xs.flatten)])) (.ref d.length)).bind intsOf = some (iL xs.flatten) := by
          rw [c_seq, nW_iL]; exact ints_of _
        rw [e]
        dsimp only
        rw [if_pos (by rw [iL_len]; omega)]; rfl
      rw [ls, v_lenL (by intro z h; cases h) (c_seq (ws := nW xs.flatten)), nW_len, v_ne]
      dsimp only
      by_cases hs : (L2.setI (iL xs.flatten)).length = xs.flatten.length
      · rw [hs]
        rw [decide_eq_true rfl, decide_eq_true rfl, if_neg (by decide), prop_ok (get_app hd1) (runners_at (get_app hd1))]
        dsimp only
        rw [if_pos (by omega), Int.toNat_natCast]
        refine cl_map (c := d ++ [Cell.lst (nW xs.flatten)]) (ws := upFrom 0 n) (fun _ _ => rfl) (fun w => .bl (xs.flatten.contains (nat1 w) || (absN n f).contains (nat1 w))) (by rw [up_len]; omega) (fun w hw => ?_) ?_
        · obtain ⟨k, hk, rfl⟩ := up_mem hw
          refine ⟨_, fun _ => rfl, rfl, fun us => run_eq ?_⟩
          have i1 : wIn (.int (k : Nat)) (.ref d.length) (C ((d ++ [Cell.lst (nW xs.flatten)]) ++ .lst us :: [])) = .ok (.bl (xs.flatten.contains k)) (C ((d ++ [Cell.lst (nW xs.flatten)]) ++ .lst us :: [])) := by
            refine v_inN ?_
            rw [List.append_assoc]; exact c_seq
          have i2 : wIn (.int (k : Nat)) (.tup (absL n f)) (C ((d ++ [Cell.lst (nW xs.flatten)]) ++ .lst us :: [])) = .ok (.bl ((absN n f).contains k)) (C ((d ++ [Cell.lst (nW xs.flatten)]) ++ .lst us :: [])) := v_inN (by rw [absL_nW]; rfl)
          have hq3 : ((d ++ [Cell.lst (nW xs.flatten)]) ++ .lst us :: [])[q]? = some (raceC n t f cu) := get_app (get_app hd1)
          exists wipeL, kk i1, prop_ok hq3 (absent_at hq3), kk i2
          have en : nat1 (W.int (k : Nat)) = k := Int.toNat_natCast k
          rw [en]
          cases xs.flatten.contains k
          · rw [if_neg (by decide), Bool.false_or]
          · rw [if_pos rfl, Bool.true_or]
        · rw [v_all (show RB.getL _ _ = _ from c_seq) (up_bools hn1 hn fun k => xs.flatten.contains k || (absN n f).contains k), List.append_assoc, hb]
          refine ⟨?_, rfl⟩
          rw [Bool.true_and, Bool.true_and, List.all_map]
          rfl
      · rw [decide_eq_false hs, if_pos (by rw [decide_eq_false (by omega)]; rfl), hb]
        exact ⟨by rw [Bool.false_and, Bool.and_false], rfl⟩
  · exists kk (need_ok (c := c) hq 1), kk sq, l2, truth, Bool.not_true, b1, hg0
    refine cl_map (c := c) (ws := ys) (fun us i => live2 hg _ i) L lz (by subst hL; exact step) ?_
    rw [vA]
    cases hA : xs.all (grpB n t)
    · show (if false = false then _ else _)
      rw [if_pos rfl, hback0]
      exact ⟨by rw [Bool.false_and], rfl⟩
    · show (if true = false then _ else _)
      rw [if_neg (by decide)]
      have hr := running_sp (c := c ++ [Cell.lst (ys.map L)]) (seq_app hv) h.app (by omega) (by omega) (fun x hx => by have := h3 x hx; omega)
      have hd1 : (c ++ [Cell.lst (ys.map L)])[q]? = some (raceC n t f cu) := get_app hq
      rw [kk hr]
      have hb := fun (b : Bool) (g : List Cell) (P : W → Sto → Prop) => hback b (ys.map L) g P
      clear hback hback0 vA step hbs
      generalize hd : c ++ [Cell.lst (ys.map L)] = d at hr hd1 hb ⊢
      have ls : ∀ (X : XP) (P : W → Sto → Prop), Ok (fLenSet (.ref d.length) (C (d ++ [Cell.lst (nW xs.flatten)]))) X P = P (.int ((L2.setI (iL xs.flatten)).length : Nat)) (C (d ++ [Cell.lst (nW xs.flatten)])) := fun X P => by
        unfold fLenSet
        have e : (seqOf (C (d ++ [Cell.lst (nW xs.flatten)])) (.ref d.length)).bind intsOf = some (iL xs.flatten) := by
          rw [c_seq, nW_iL]; exact ints_of _
        rw [e]
        dsimp only
        rw [if_pos (by rw [iL_len]; omega)]; rfl
      rw [ls, v_lenL (by intro z h; cases h) (c_seq (ws := nW xs.flatten)), nW_len, v_ne]
      dsimp only
      by_cases hs : (L2.setI (iL xs.flatten)).length = xs.flatten.length
      · rw [hs]
        rw [decide_eq_true rfl, decide_eq_true rfl, if_neg (by decide), prop_ok (get_app hd1) (runners_at (get_app hd1))]
        dsimp only
        rw [if_pos (by omega), Int.toNat_natCast]
        refine cl_map (c := d ++ [Cell.lst (nW xs.flatten)]) (ws := upFrom 0 n) (fun _ _ => rfl) (fun w => .bl (xs.flatten.contains (nat1 w) || (absN n f).contains (nat1 w))) (by rw [up_len]; omega) (fun w hw => ?_) ?_
        · obtain ⟨k, hk, rfl⟩ := up_mem hw
          refine ⟨_, fun _ => rfl, rfl, fun us => run_eq ?_⟩
          have i1 : wIn (.int (k : Nat)) (.ref d.length) (C ((d ++ [Cell.lst (nW xs.flatten)]) ++ .lst us :: [])) = .ok (.bl (xs.flatten.contains k)) (C ((d ++ [Cell.lst (nW xs.flatten)]) ++ .lst us :: [])) := by
            refine v_inN ?_
            rw [List.append_assoc]; exact c_seq
          have i2 : wIn (.int (k : Nat)) (.tup (absL n f)) (C ((d ++ [Cell.lst (nW xs.flatten)]) ++ .lst us :: [])) = .ok (.bl ((absN n f).contains k)) (C ((d ++ [Cell.lst (nW xs.flatten)]) ++ .lst us :: [])) := v_inN (by rw [absL_nW]; rfl)
          have hq3 : ((d ++ [Cell.lst (nW xs.flatten)]) ++ .lst us :: [])[q]? = some (raceC n t f cu) := get_app (get_app hd1)
          exists wipeL, kk i1, prop_ok hq3 (absent_at hq3), kk i2
          have en : nat1 (W.int (k : Nat)) = k := Int.toNat_natCast k
          rw [en]
          cases xs.flatten.contains k
          · rw [if_neg (by decide), Bool.false_or]
          · rw [if_pos rfl, Bool.true_or]
        · rw [v_all (show RB.getL _ _ = _ from c_seq) (up_bools hn1 hn fun k => xs.flatten.contains k || (absN n f).contains k), List.append_assoc, hb]
          refine ⟨?_, rfl⟩
          rw [Bool.true_and, Bool.true_and, List.all_map]
          rfl
      · rw [decide_eq_false hs, if_pos (by rw [decide_eq_false (by omega)]; rfl), hb]
        exact ⟨by rw [Bool.false_and, Bool.and_false], rfl⟩
end
end LW

set_option Elab.async false
set_option linter.all false
set_option maxRecDepth 100000
set_option maxHeartbeats 4000000
namespace LW
open PySem PySem.W RB L2
local macro_rules | `(tactic| exists $es,*) => `(tactic| simp (config := {decide := false, implicitDefEqProofs := false}) only [k_ok, k_exc, k_err, k_ite, k_iteS, k_nx, k_rt, k_loc, k_lit, k_nil, k_cons, k_tup, k_lst, k_bin, k_eB, k_eU, k_call, k_tru, k_not, k_and, k_or, k_if, k_eAnd, k_eOr, k_eNot, k_val, k_chain, k_sNil, k_sSeq, k_sSet, tgName, tgTup, tgCons, tgNil, Option.bind_some, k_sDrop, k_sRet, k_sRetN, k_sIf, k_sBreak, k_sCont, k_sFor, k_sRaise, k_sTry, k_defn, k_vSeq, k_rng1, k_comp,
  v_add, v_sub, v_mul, v_mod, v_div, v_lt, v_le, v_gt, v_ge, v_eq, v_ne, v_neg, v_int, v_min,
  List.map_cons, List.map_nil, List.length_cons, List.length_nil, List.replicate_succ, List.replicate_zero, List.cons_append, List.nil_append, List.append_nil, List.getElem?_cons_succ, List.getElem?_cons_zero, List.set_cons_succ, List.set_cons_zero,
  Nat.reduceAdd, Nat.reduceSub, Nat.zero_add, decide_eq_true_eq, Bool.not_eq_true', decide_eq_false_iff_not, Bool.true_eq_false, Bool.false_eq_true, if_true, if_false, ite_true, ite_false, ite_self, reduceIte, Nat.reduceLeDiff, true_and, and_true, $[$es:term],*])
section
variable {c g : List Cell} {X : XP} {P : W → Sto → Prop}
theorem so_num (d : Nat) (a b : Int) : F__law_so (d + 1) [.int a, .int b] (C c) = .ok (.bl (decide (a = b))) (C c) := by
  refine run_eq ?_
  unfold F__law_so
  have w : ∀ (st : Sto) (X : XP) (P : W → Sto → Prop), Ok (wIsN (.int b) .non st) X P = P (.bl false) st := fun st X P => rfl
  exists w, k_isi, tnOf, ans_tuple, ans_bool, ans_int, truth
  rw [c_trim0 rfl]
  exact ⟨rfl, rfl⟩
theorem so_bl (d : Nat) (a b : Bool) : F__law_so (d + 1) [.bl a, .bl b] (C c) = .ok (.bl (decide (a = b))) (C c) := by
  cases a <;> cases b <;> {
    refine run_eq ?_
    unfold F__law_so
    have w : ∀ (x : Bool) (st : Sto) (X : XP) (P : W → Sto → Prop), Ok (wIsN (.bl x) .non st) X P = P (.bl false) st := fun x st X P => rfl
    have e : ∀ (x y : Bool) (st : Sto) (X : XP) (P : W → Sto → Prop), Ok (wEq (.bl x) (.bl y) st) X P = P (.bl (decide (x = y))) st := fun x y st X P => by cases x <;> cases y <;> rfl
    exists w, k_isi, tnOf, ans_tuple, ans_bool, ans_int, truth, e
    rw [c_trim0 rfl]
    exact ⟨rfl, rfl⟩ }
/-- something that is no tuple, where a tuple is meant -/
theorem so_notup (d : Nat) (a : Int) (bs : List W) : F__law_so (d + 1) [.int a, .tup bs] (C c) = .ok (.bl false) (C c) := by
  refine run_eq ?_
  unfold F__law_so
  have w : ∀ (st : Sto) (X : XP) (P : W → Sto → Prop), Ok (wIsN (.tup bs) .non st) X P = P (.bl false) st := fun st X P => rfl
  exists w, k_isi, tnOf, ans_tuple, truth, Bool.not_true, Bool.not_false
  rw [c_trim0 rfl]
  exact ⟨rfl, rfl⟩
theorem so_blnum (d : Nat) (a : Bool) (b : Int) : F__law_so (d + 1) [.bl a, .int b] (C c) = .ok (.bl false) (C c) := by
  refine run_eq ?_
  unfold F__law_so
  have w : ∀ (st : Sto) (X : XP) (P : W → Sto → Prop), Ok (wIsN (.int b) .non st) X P = P (.bl false) st := fun st X P => rfl
  exists w, k_isi, tnOf, ans_tuple, ans_bool, ans_int, truth
  rw [c_trim0 rfl]
  exact ⟨rfl, rfl⟩
theorem so_tup (d : Nat) (as bs : List W) (hl : bs.length < 1000000) (r : Nat → Bool) (h : ∀ (i : Nat) (a b : W), as[i]? = some a → bs[i]? = some b → F__law_so d [a, b] (C c) = .ok (.bl (r i)) (C c)) :
    F__law_so (d + 1) [.tup as, .tup bs] (C c) = .ok (.bl (decide (as.length = bs.length) && (List.range bs.length).all r)) (C c) := by
  refine run_eq ?_
  unfold F__law_so
  have w : ∀ (st : Sto) (X : XP) (P : W → Sto → Prop), Ok (wIsN (.tup bs) .non st) X P = P (.bl false) st := fun st X P => rfl
  have tn : ∀ (l : List W) (st : Sto), tnOf st (.tup l) = some .tup := fun l st => rfl
  have ln : ∀ (l : List W) (st : Sto) (X : XP) (P : W → Sto → Prop), Ok (fLen [.tup l] st) X P = P (.int (l.length : Nat)) st := fun l st X P => v_lenL (by intro z h; cases h) rfl
  by_cases e : as.length = bs.length
  · have e1 : (((as.length : Nat) : Int) = (bs.length : Nat)) = True := eq_true (by omega)
    have e2 : (-1000000 ≤ ((bs.length : Nat) : Int) ∧ ((bs.length : Nat) : Int) ≤ 1000000) = True := eq_true (by omega)
    exists w, k_isi, tn, ans_tuple, truth, ln, e1, decide_true, Bool.not_true, e2, Int.toNat_natCast
    rw [decide_eq_true e, Bool.true_and]
    refine loop_fix (upFrom 0 bs.length) (fun i l st => (∃ a : Option W, l = [some (.tup as), some (.tup bs), a]) ∧ st = C c ∧ ∀ j < i, r j = true) (fun _ _ _ _ => rfl) ?_ ?_ 1000000 0 _ _ (by rw [up_len]; omega) (Nat.zero_le _) ⟨⟨none, rfl⟩, rfl, fun j hj => by omega⟩
    · rintro i w l st hw ⟨⟨a, rfl⟩, rfl, hj⟩
      obtain ⟨hi, rfl⟩ := up_get hw
      refine ⟨_, rfl, ?_⟩
      obtain ⟨x, hx⟩ : ∃ x, as[i]? = some x := ⟨as[i]'(by omega), List.getElem?_eq_getElem _⟩
      obtain ⟨y, hy⟩ : ∃ y, bs[i]? = some y := ⟨bs[i]'(by omega), List.getElem?_eq_getElem _⟩
      have ix : ∀ (l : List W) (z : W), l[i]? = some z → ∀ (X : XP) (P : W → Sto → Prop), Ok (wIx (.tup l) (.int (i : Nat)) (C c)) X P = P z (C c) := fun l z hz X P => by
        have hlt : i < l.length := by
          by_cases q : i < l.length
          · exact q
          · rw [List.getElem?_eq_none (by omega)] at hz; cases hz
        unfold wIx seqOf
        dsimp only
        rw [atI_in (by omega) (by omega), Int.toNat_natCast, hz]
        rfl
      have hh := h i x y hx hy
      cases hr : r i
      · rw [hr] at hh
        exists ix as x hx, ix bs y hy, kk hh, truth, Bool.not_false
        rw [c_trim0 rfl]
        refine ⟨?_, rfl⟩
        have : (List.range bs.length).all r = false := by
          rw [List.all_eq_false]
          exact ⟨i, List.mem_range.mpr (by omega), by rw [hr]; decide⟩
        rw [this]
      · rw [hr] at hh
        exists ix as x hx, ix bs y hy, kk hh, truth, Bool.not_true
        refine ⟨⟨_, rfl⟩, fun j hj2 => ?_⟩
        rcases Nat.lt_or_eq_of_le (Nat.lt_succ_iff.mp hj2) with z | rfl
        · exact hj j z
        · exact hr
    · rintro l st ⟨⟨a, rfl⟩, rfl, hj⟩
      rw [up_len] at hj
      have : (List.range bs.length).all r = true := List.all_eq_true.mpr fun j hj2 => hj j (List.mem_range.mp hj2)
      rw [this]
      dsimp only
      rw [c_trim0 rfl]
      exact ⟨rfl, rfl⟩
  · have e1 : (((as.length : Nat) : Int) = (bs.length : Nat)) = False := eq_false (by omega)
    exists w, k_isi, tn, ans_tuple, truth, ln, e1, decide_false, Bool.not_true, Bool.not_false
    rw [c_trim0 rfl, decide_eq_false e, Bool.false_and]
    exact ⟨rfl, rfl⟩
theorem all_dec {α : Type} [DecidableEq α] (a b : List α) : (decide (a.length = b.length) && (List.range b.length).all fun i => decide (a[i]? = b[i]?)) = decide (a = b) := by
  by_cases e : a = b
  · subst e
    rw [decide_eq_true rfl, decide_eq_true rfl, Bool.true_and, List.all_eq_true]
    intro i _
    exact decide_eq_true rfl
  · rw [decide_eq_false e]
    by_cases l : a.length = b.length
    · rw [decide_eq_true l, Bool.true_and, List.all_eq_false]
      have : ∃ i, i < b.length ∧ a[i]? ≠ b[i]? := by
        refine Classical.byContradiction fun hc => e (List.ext_getElem? fun i => ?_)
        by_cases q : i < b.length
        · exact Classical.byContradiction fun hc2 => hc ⟨i, q, hc2⟩
        · rw [List.getElem?_eq_none (by omega), List.getElem?_eq_none (by omega)]
      obtain ⟨i, hi, hne⟩ := this
      exact ⟨i, List.mem_range.mpr hi, by rw [decide_eq_false hne]; decide⟩
    · rw [decide_eq_false l, Bool.false_and]
theorem so_nW (d : Nat) (a b : List Nat) (hb : b.length < 1000000) : F__law_so (d + 2) [.tup (nW a), .tup (nW b)] (C c) = .ok (.bl (decide (a = b))) (C c) := by
  rw [so_tup (d + 1) (nW a) (nW b) (by rw [nW_len]; exact hb) (fun i => decide (a[i]? = b[i]?)) fun i x y hx hy => ?_, nW_len, nW_len, all_dec]
  unfold nW at hx hy
  rw [List.getElem?_map] at hx hy
  cases ha : a[i]? with
  | none => rw [ha] at hx; cases hx
  | some k =>
    cases hb2 : b[i]? with
    | none => rw [hb2] at hy; cases hy
    | some m =>
      rw [ha] at hx; rw [hb2] at hy
      obtain rfl := Option.some.inj hx
      obtain rfl := Option.some.inj hy
      rw [so_num]
      congr 2
      by_cases q : k = m
      · rw [decide_eq_true (by rw [q]), decide_eq_true (by rw [q])]
      · rw [decide_eq_false (by omega), decide_eq_false (fun h => q (Option.some.inj h))]
theorem so_outW (d : Nat) (a b : List (List Nat)) (hb : b.length < 1000000) (hb2 : ∀ x ∈ b, x.length < 1000000) : F__law_so (d + 3) [outW a, outW b] (C c) = .ok (.bl (decide (a = b))) (C c) := by
  unfold outW
  rw [so_tup (d + 2) (a.map grpW) (b.map grpW) (by rw [List.length_map]; exact hb) (fun i => decide (a[i]? = b[i]?)) fun i x y hx hy => ?_, List.length_map, List.length_map, all_dec]
  rw [List.getElem?_map] at hx hy
  cases ha : a[i]? with
  | none => rw [ha] at hx; cases hx
  | some k =>
    cases hb2 : b[i]? with
    | none => rw [hb2] at hy; cases hy
    | some m =>
      rw [ha] at hx; rw [hb2] at hy
      obtain rfl := Option.some.inj hx
      obtain rfl := Option.some.inj hy
      rw [show grpW k = .tup (nW k) from rfl, show grpW m = .tup (nW m) from rfl, so_nW d k m (by rename_i h3; exact h3 m (List.mem_of_getElem? hb2))]
      congr 2
      by_cases q : k = m
      · rw [decide_eq_true (by rw [q]), decide_eq_true (by rw [q])]
      · rw [decide_eq_false q, decide_eq_false (fun h => q (Option.some.inj h))]
end
end LW

set_option Elab.async false
set_option linter.all false
set_option maxRecDepth 100000
set_option maxHeartbeats 4000000
namespace LW
open PySem PySem.W RB L2
def fixV (n : Nat) : List (List (List Nat)) := [[], [[]], [[n]], [[0, 0]], [[1, 0]], [[0], [1], [2], [3]], [[0, 1], [2]], [[0, 1, 2]]]
def ownV (o : List (List Nat)) : List (List (List Nat)) := [o ++ [[]], o.drop 1, o.reverse, o ++ o.take 1]
def sameV (n : Nat) (t : Bool) (A : List Nat) (R : List (List (List Nat))) (v : List (List Nat)) : Bool := isoB n t A v == R.contains v
def tryV (n : Nat) (t : Bool) (A : List Nat) : Bool := (fixV n).all (sameV n t A (rawA n t A)) && (rawA n t A).all fun o => (rawA 4 true [0, 1, 2, 3]).contains o && (ownV o).all (sameV n t A (rawA n t A))
theorem try_ok {n : Nat} (h1 : 1 ≤ n) (hn : n ≤ 4) (t : Bool) (p : Nat → Bool) : tryV n t ((List.range n).filter p) = true := by
  have : n = 1 ∨ n = 2 ∨ n = 3 ∨ n = 4 := by omega
  rcases this with rfl | rfl | rfl | rfl
  · change tryV 1 t (List.filter p [0]) = true
    simp only [List.filter]
    cases p 0 <;> cases t <;> decide +kernel
  · change tryV 2 t (List.filter p [0, 1]) = true
    simp only [List.filter]
    cases p 0 <;> cases p 1 <;> cases t <;> decide +kernel
  · change tryV 3 t (List.filter p [0, 1, 2]) = true
    simp only [List.filter]
    cases p 0 <;> cases p 1 <;> cases p 2 <;> cases t <;> decide +kernel
  · change tryV 4 t (List.filter p [0, 1, 2, 3]) = true
    simp only [List.filter]
    cases p 0 <;> cases p 1 <;> cases p 2 <;> cases p 3 <;> cases t <;> decide +kernel
end LW

set_option Elab.async false
set_option linter.all false
set_option maxRecDepth 100000
set_option maxHeartbeats 4000000
namespace LW
open PySem PySem.W RB L2
def refsF (k m : Nat) : List W := (List.range' k m).map W.ref
def lstC (o : List (List Nat)) : List Cell := o.map fun x => .lst (nW x)
section
variable (c0 c1 c2 c3 : Cell)
theorem loose0 : (rawA 4 true [0, 1, 2, 3]).map (fun o => F__law_loose 6 [outW o, .int 0] ⟨[c0, c1, c2, c3], none⟩) = (rawA 4 true [0, 1, 2, 3]).map fun o => .ok (.ref 4) ⟨[c0, c1, c2, c3, .lst (o.map grpW)], none⟩ := by kernel_rfl
theorem loose1 : (rawA 4 true [0, 1, 2, 3]).map (fun o => F__law_loose 6 [outW o, .int 1] ⟨[c0, c1, c2, c3], none⟩) = (rawA 4 true [0, 1, 2, 3]).map fun o => .ok (.tup (refsF 4 o.length)) ⟨[c0, c1, c2, c3] ++ lstC o, none⟩ := by kernel_rfl
end
theorem sqs_tup (c : List Cell) (o : List (List Nat)) : Sqs c (o.map grpW) o := by
  induction o with
  | nil => exact .nil
  | cons x r ih => exact .cons rfl ih
theorem sqs_ref : ∀ (o : List (List Nat)) (p : List Cell), Sqs (p ++ lstC o) (refsF p.length o.length) o
  | [], p => .nil
  | x :: r, p => by
    have h := sqs_ref r (p ++ [Cell.lst (nW x)])
    rw [List.append_assoc, List.length_append] at h
    exact .cons (show seqOf (C (p ++ Cell.lst (nW x) :: lstC r)) (.ref p.length) = _ from c_seq) h
end LW

set_option Elab.async false
set_option linter.all false
set_option maxRecDepth 100000
set_option maxHeartbeats 4000000
namespace LW
open PySem PySem.W RB L2
local macro_rules | `(tactic| exists $es,*) => `(tactic| simp (config := {decide := false, implicitDefEqProofs := false}) only [k_ok, k_exc, k_err, k_ite, k_iteS, k_nx, k_rt, k_loc, k_lit, k_nil, k_cons, k_tup, k_lst, k_bin, k_eB, k_eU, k_call, k_tru, k_not, k_and, k_or, k_if, k_eAnd, k_eOr, k_eNot, k_val, k_chain, k_sNil, k_sSeq, k_sSet, tgName, tgTup, tgCons, tgNil, Option.bind_some, k_sDrop, k_sRet, k_sRetN, k_sIf, k_sBreak, k_sCont, k_sFor, k_sRaise, k_sTry, k_defn, k_vSeq, k_rng1, k_comp,
  v_add, v_sub, v_mul, v_mod, v_div, v_lt, v_le, v_gt, v_ge, v_eq, v_ne, v_neg, v_int, v_min,
  List.map_cons, List.map_nil, List.length_cons, List.length_nil, List.replicate_succ, List.replicate_zero, List.cons_append, List.nil_append, List.append_nil, List.getElem?_cons_succ, List.getElem?_cons_zero, List.set_cons_succ, List.set_cons_zero,
  Nat.reduceAdd, Nat.reduceSub, Nat.zero_add, decide_eq_true_eq, Bool.not_eq_true', decide_eq_false_iff_not, Bool.true_eq_false, Bool.false_eq_true, if_true, if_false, ite_true, ite_false, ite_self, reduceIte, Nat.reduceLeDiff, true_and, and_true, $[$es:term],*])
section
variable {c g : List Cell} {X : XP} {P : W → Sto → Prop}
theorem plain_sp {v : W} {ws : List W} (hl : ws.length < 1000000) (s : W → Bool) (h : ∀ w ∈ ws, F__law_so 6 [v, w] (C c) = .ok (.bl (s w)) (C c)) : F__law_plain_in [v, .tup ws] (C c) = .ok (.bl (ws.any s)) (C c) := by
  refine run_eq ?_
  unfold F__law_plain_in
  have vs : ∀ (a b : Option W) (X : XP) (P : Src → Sto → Prop), Ok (vSeq (eLoc 1) [a, some (.tup ws), b] (C c)) X P = P (.fix ws) (C c) := fun a b X P => rfl
  exists vs
  refine loop_fix ws (fun i l st => (∃ a : Option W, l = [some v, some (.tup ws), a]) ∧ st = C c ∧ ∀ j < i, ∀ w, ws[j]? = some w → s w = false) (fun _ _ _ _ => rfl) ?_ ?_ 1000000 0 _ _ (by omega) (Nat.zero_le _) ⟨⟨none, rfl⟩, rfl, fun j hj => by omega⟩
  · rintro i w l st hw ⟨⟨a, rfl⟩, rfl, hj⟩
    refine ⟨_, rfl, ?_⟩
    have hh := h w (List.mem_of_getElem? hw)
    cases hr : s w
    · rw [hr] at hh
      exists kk hh, truth
      refine ⟨⟨_, rfl⟩, fun j hj2 w2 hw2 => ?_⟩
      rcases Nat.lt_or_eq_of_le (Nat.lt_succ_iff.mp hj2) with z | rfl
      · exact hj j z w2 hw2
      · rw [hw] at hw2
        rw [← Option.some.inj hw2]; exact hr
    · rw [hr] at hh
      exists kk hh, truth
      rw [c_trim0 rfl]
      refine ⟨?_, rfl⟩
      rw [List.any_eq_true.mpr ⟨w, List.mem_of_getElem? hw, hr⟩]
  · rintro l st ⟨⟨a, rfl⟩, rfl, hj⟩
    have : ws.any s = false := by
      rw [List.any_eq_false]
      intro w hw
      obtain ⟨j, hj2, rfl⟩ := List.getElem_of_mem hw
      rw [hj j hj2 _ (List.getElem?_eq_getElem hj2)]
      decide
    rw [this]
    dsimp only
    refine ⟨rfl, ?_⟩
    show C (c.take c.length) = C c
    rw [List.take_length]
def outOf (w : W) : List (List Nat) := match w with
  | .tup l => l.map fun g => match g with | .tup k => natsW k | _ => []
  | _ => []
theorem out_of (o : List (List Nat)) : outOf (outW o) = o := by
  show (o.map grpW).map _ = o
  rw [List.map_map]
  conv => rhs; rw [← List.map_id o]
  refine List.map_congr_left fun x _ => ?_
  exact nats_nW x
theorem plain_ok {v : List (List Nat)} {ws : List W} {R : List (List (List Nat))} (hl : ws.length < 1000000) (h1 : ∀ w ∈ ws, ∃ o ∈ R, w = outW o) (h2 : ∀ o ∈ R, outW o ∈ ws) (h3 : ∀ o ∈ R, o.length < 1000000 ∧ ∀ x ∈ o, x.length < 1000000) :
    F__law_plain_in [outW v, .tup ws] (C c) = .ok (.bl (R.contains v)) (C c) := by
  rw [plain_sp hl (fun w => decide (v = outOf w)) fun w hw => ?_]
  · congr 2
    rw [Bool.eq_iff_iff, List.any_eq_true, List.contains_iff_mem]
    refine ⟨fun ⟨w, hw, e⟩ => ?_, fun hv => ⟨outW v, h2 v hv, by rw [out_of]; exact decide_eq_true rfl⟩⟩
    obtain ⟨o, ho, rfl⟩ := h1 w hw
    rw [out_of, decide_eq_true_eq] at e
    rw [e]; exact ho
  · obtain ⟨o, ho, rfl⟩ := h1 w hw
    rw [out_of]
    exact so_outW 3 v o (h3 o ho).1 (h3 o ho).2
theorem gate (m : Nat) : (decide (1 = m) && (List.range m).all fun i => decide (1 ≤ i)) = false := by
  cases m with
  | zero => rfl
  | succ m => cases m with
    | zero => rfl
    | succ m => rw [decide_eq_false (by omega), Bool.false_and]
theorem so_one {d : Nat} {a : W} {bs : List W} (hl : bs.length < 1000000) (h : ∀ b ∈ bs, F__law_so d [a, b] (C c) = .ok (.bl false) (C c)) : F__law_so (d + 1) [.tup [a], .tup bs] (C c) = .ok (.bl false) (C c) := by
  rw [so_tup d [a] bs hl (fun i => decide (1 ≤ i)) fun i x y hx hy => ?_]
  · show Res.ok (W.bl (decide (1 = bs.length) && _)) _ = _
    rw [gate]
  · cases i with
    | succ i => cases hx
    | zero =>
      obtain rfl := Option.some.inj hx
      exact h y (List.mem_of_getElem? hy)
theorem so_odd1 {o : List (List Nat)} (ho : o.length < 1000000) (h2 : ∀ x ∈ o, x.length < 1000000) : F__law_so 6 [.tup [.tup [.bl true]], outW o] (C c) = .ok (.bl false) (C c) := by
  refine so_one (by rw [List.length_map]; exact ho) fun b hb => ?_
  obtain ⟨x, hx, rfl⟩ := List.mem_map.mp hb
  refine so_one (by rw [List.length_map]; exact h2 x hx) fun b hb => ?_
  obtain ⟨k, hk, rfl⟩ := List.mem_map.mp hb
  exact so_blnum 3 true k
theorem so_odd2 {o : List (List Nat)} (ho : o.length < 1000000) : F__law_so 6 [.tup [.int 0], outW o] (C c) = .ok (.bl false) (C c) := by
  refine so_one (by rw [List.length_map]; exact ho) fun b hb => ?_
  obtain ⟨x, hx, rfl⟩ := List.mem_map.mp hb
  exact so_notup 4 0 (nW x)
theorem plain_not {v : W} {ws : List W} (hl : ws.length < 1000000) (h : ∀ w ∈ ws, F__law_so 6 [v, w] (C c) = .ok (.bl false) (C c)) : F__law_plain_in [v, .tup ws] (C c) = .ok (.bl false) (C c) := by
  rw [plain_sp hl (fun _ => false) h]
  congr 2
  rw [List.any_eq_false]
  intro _ _; decide
/-- every outcome that is found is in the sorted list -/
theorem sort_mem2 {l : List (List (List Nat))} {ws : List W} (hne : ∀ o ∈ l, o ≠ []) (h : sortRes (l.map outW) = some ws) : (∀ o ∈ l, outW o ∈ ws) ∧ (∀ w ∈ ws, ∃ o ∈ l, w = outW o) := by
  rw [sortRes_out hne] at h
  obtain rfl := Option.some.inj h
  rw [sortB_eq (dataLe_total Prod.snd)]
  refine ⟨fun o ho => List.mem_map.mpr ⟨(outW o, outD o), List.mem_mergeSort.mpr (List.mem_map.mpr ⟨o, ho, rfl⟩), rfl⟩, fun w hw => ?_⟩
  obtain ⟨x, hx, rfl⟩ := List.mem_map.mp hw
  obtain ⟨o, ho, rfl⟩ := List.mem_map.mp (List.mem_mergeSort.mp hx)
  exact ⟨o, ho, rfl⟩
theorem so_same {ws : List W} (hl : ws.length < 1000000) (h : ∀ w ∈ ws, ∃ o : List (List Nat), w = outW o ∧ o.length < 1000000 ∧ ∀ x ∈ o, x.length < 1000000) : F__law_so 6 [.tup ws, .tup ws] (C c) = .ok (.bl true) (C c) := by
  rw [so_tup 5 ws ws hl (fun _ => true) fun i a b ha hb => ?_]
  · rw [decide_eq_true rfl, Bool.true_and]
    congr 2
    exact List.all_eq_true.mpr fun _ _ => rfl
  · rw [ha] at hb
    obtain rfl := Option.some.inj hb
    obtain ⟨o, rfl, h1, h2⟩ := h a (List.mem_of_getElem? ha)
    rw [so_outW 2 o o h1 h2, decide_eq_true rfl]
end
end LW

set_option Elab.async false
set_option linter.all false
set_option maxRecDepth 100000
set_option maxHeartbeats 4000000
namespace LW
open PySem PySem.W RB L2
local macro_rules | `(tactic| exists $es,*) => `(tactic| simp (config := {decide := false, implicitDefEqProofs := false}) only [k_ok, k_exc, k_err, k_ite, k_iteS, k_nx, k_rt, k_loc, k_lit, k_nil, k_cons, k_tup, k_lst, k_bin, k_eB, k_eU, k_call, k_tru, k_not, k_and, k_or, k_if, k_eAnd, k_eOr, k_eNot, k_val, k_chain, k_sNil, k_sSeq, k_sSet, tgName, tgTup, tgCons, tgNil, Option.bind_some, k_sDrop, k_sRet, k_sRetN, k_sIf, k_sBreak, k_sCont, k_sFor, k_sRaise, k_sTry, k_defn, k_vSeq, k_rng1, k_comp,
  v_add, v_sub, v_mul, v_mod, v_div, v_lt, v_le, v_gt, v_ge, v_eq, v_ne, v_neg, v_int, v_min,
  List.map_cons, List.map_nil, List.length_cons, List.length_nil, List.replicate_succ, List.replicate_zero, List.cons_append, List.nil_append, List.append_nil, List.getElem?_cons_succ, List.getElem?_cons_zero, List.set_cons_succ, List.set_cons_zero,
  Nat.reduceAdd, Nat.reduceSub, Nat.zero_add, decide_eq_true_eq, Bool.not_eq_true', decide_eq_false_iff_not, Bool.true_eq_false, Bool.false_eq_true, if_true, if_false, ite_true, ite_false, ite_self, reduceIte, Nat.reduceLeDiff, true_and, and_true, $[$es:term],*])
section
variable {c g : List Cell} {X : XP} {P : W → Sto → Prop} {q n : Nat} {t : Bool} {f : Nat → Bool} {cu : List Int}
theorem noseq_non : F_is_sequence [.non] (C c) = .ok (.bl false) (C c) := by
  refine run_eq ?_
  unfold F_is_sequence
  exists k_isi, tnOf, ans_list_tuple
  rw [c_trim0 rfl]; exact ⟨rfl, rfl⟩
theorem noseq_int (i : Int) : F_is_sequence [.int i] (C c) = .ok (.bl false) (C c) := by
  refine run_eq ?_
  unfold F_is_sequence
  exists k_isi, tnOf, ans_list_tuple
  rw [c_trim0 rfl]; exact ⟨rfl, rfl⟩
theorem noseq_str (i : Str) : F_is_sequence [.str i] (C c) = .ok (.bl false) (C c) := by
  refine run_eq ?_
  unfold F_is_sequence
  exists k_isi, tnOf, ans_list_tuple
  rw [c_trim0 rfl]; exact ⟨rfl, rfl⟩
theorem isout_no {v : W} (hq : c[q]? = some (raceC n t f cu)) (h : F_is_sequence [v] (C c) = .ok (.bl false) (C c)) : F_is_outcome [.ref q, v] (C c) = .ok (.bl false) (C c) := by
  refine run_eq ?_
  unfold F_is_outcome
  exists kk (need_ok (c := c) hq 1), kk h, truth, Bool.not_false
  rw [c_trim0 rfl]; exact ⟨rfl, rfl⟩
theorem runners_no {v : W} {m : W} (h : F_is_sequence [v] (C c) = .ok (.bl false) (C c)) : F__are_runners [v, m] (C c) = .ok (.bl false) (C c) := by
  refine run_eq ?_
  unfold F__are_runners
  exists kk h
  rw [c_trim0 rfl]; exact ⟨rfl, rfl⟩
theorem asc_no {v m : W} (h : F__are_runners [v, m] (C c) = .ok (.bl false) (C c)) : F__is_ascending [v, m] (C c) = .ok (.bl false) (C c) := by
  refine run_eq ?_
  unfold F__is_ascending
  exists kk h
  rw [c_trim0 rfl]; exact ⟨rfl, rfl⟩
theorem group_no {v : W} (hq : c[q]? = some (raceC n t f cu)) (h : F__is_ascending [v, .int n] (C c) = .ok (.bl false) (C c)) : F__is_group [.ref q, v] (C c) = .ok (.bl false) (C c) := by
  refine run_eq ?_
  unfold F__is_group
  exists prop_ok hq (runners_at hq), kk h
  rw [c_trim0 rfl]; exact ⟨rfl, rfl⟩
theorem true_no (a b : W) : F_is_integer_within [.bl true, a, b] (C c) = .ok (.bl false) (C c) := by
  have h : F_is_integer [.bl true] (C c) = .ok (.bl false) (C c) := by
    refine run_eq ?_
    unfold F_is_integer
    exists k_isi, tnOf, ans_int, ans_bool, truth, Bool.not_true
    rw [c_trim0 rfl]; exact ⟨rfl, rfl⟩
  refine run_eq ?_
  unfold F_is_integer_within
  exists kk h
  rw [c_trim0 rfl]; exact ⟨rfl, rfl⟩
theorem runners_true : F__are_runners [.tup [.bl true], .int n] (C c) = .ok (.bl false) (C c) := by
  refine run_eq ?_
  unfold F__are_runners
  exists kk (seq_ok (c := c) [.bl true])
  refine cl_map (c := c) (ws := [.bl true]) (fun us i => rfl) (fun _ => .bl false) (by show 1 < 1000000; decide) (fun w hw => ?_) ?_
  · obtain rfl := List.mem_singleton.mp hw
    refine ⟨_, fun _ => rfl, rfl, fun us => run_eq ?_⟩
    exists wipeL, kk (true_no (c := c ++ .lst us :: []) (.int 0) (.int ((n : Int) - 1)))
  · rw [v_all (show RB.getL _ _ = _ from c_seq) (bs := [false]) rfl, c_trim rfl]
    exact ⟨rfl, rfl⟩
theorem isout_bad {w : W} (hq : c[q]? = some (raceC n t f cu)) (h : ∀ us, F__is_group [.ref q, w] (C (c ++ .lst us :: [])) = .ok (.bl false) (C (c ++ .lst us :: []))) : F_is_outcome [.ref q, .tup [w]] (C c) = .ok (.bl false) (C c) := by
  refine run_eq ?_
  unfold F_is_outcome
  have l2 : ∀ (X : XP) (P : W → Sto → Prop), Ok (fLen [.tup [w]] (C c)) X P = P (.int 1) (C c) := fun X P => rfl
  have b1 : ¬ ((1 : Int) = 0) := by decide
  exists kk (need_ok (c := c) hq 1), kk (seq_ok (c := c) [w]), l2, truth, Bool.not_true, b1
  refine cl_map (c := c) (ws := [w]) (fun us i => rfl) (fun _ => .bl false) (by show 1 < 1000000; decide) (fun w hw => ?_) ?_
  · obtain rfl := List.mem_singleton.mp hw
    refine ⟨_, fun _ => rfl, rfl, fun us => run_eq ?_⟩
    exists wipeL, kk (h us)
  · rw [v_all (show RB.getL _ _ = _ from c_seq) (bs := [false]) rfl]
    show (if false = false then _ else _)
    rw [if_pos rfl, c_trim rfl]
    exact ⟨rfl, rfl⟩
theorem isout_odd1 (hq : c[q]? = some (raceC n t f cu)) : F_is_outcome [.ref q, .tup [.tup [.bl true]]] (C c) = .ok (.bl false) (C c) :=
  isout_bad hq fun us => group_no (get_app hq) (asc_no runners_true)
theorem isout_odd2 (hq : c[q]? = some (raceC n t f cu)) : F_is_outcome [.ref q, .tup [.int 0]] (C c) = .ok (.bl false) (C c) :=
  isout_bad hq fun us => group_no (get_app hq) (asc_no (runners_no (noseq_int 0)))
end
end LW

set_option Elab.async false
set_option linter.all false
set_option maxRecDepth 100000
set_option maxHeartbeats 4000000
namespace LW
open PySem PySem.W RB L2
local macro_rules | `(tactic| exists $es,*) => `(tactic| simp (config := {decide := false, implicitDefEqProofs := false}) only [k_ok, k_exc, k_err, k_ite, k_iteS, k_nx, k_rt, k_loc, k_lit, k_nil, k_cons, k_tup, k_lst, k_bin, k_eB, k_eU, k_call, k_tru, k_not, k_and, k_or, k_if, k_eAnd, k_eOr, k_eNot, k_val, k_chain, k_sNil, k_sSeq, k_sSet, tgName, tgTup, tgCons, tgNil, Option.bind_some, k_sDrop, k_sRet, k_sRetN, k_sIf, k_sBreak, k_sCont, k_sFor, k_sRaise, k_sTry, k_defn, k_vSeq, k_rng1, k_comp,
  v_add, v_sub, v_mul, v_mod, v_div, v_lt, v_le, v_gt, v_ge, v_eq, v_ne, v_neg, v_int, v_min,
  List.map_cons, List.map_nil, List.length_cons, List.length_nil, List.replicate_succ, List.replicate_zero, List.cons_append, List.nil_append, List.append_nil, List.getElem?_cons_succ, List.getElem?_cons_zero, List.set_cons_succ, List.set_cons_zero,
  Nat.reduceAdd, Nat.reduceSub, Nat.zero_add, decide_eq_true_eq, Bool.not_eq_true', decide_eq_false_iff_not, Bool.true_eq_false, Bool.false_eq_true, if_true, if_false, ite_true, ite_false, ite_self, reduceIte, Nat.reduceLeDiff, true_and, and_true, $[$es:term],*])
def valsA (n : Nat) (o : List (List Nat)) : List W := [W.non, W.int 5, W.tup [], W.tup [W.tup []], outW (o ++ [[]]), outW (List.drop 1 o), outW o.reverse, outW (o ++ List.take 1 o), W.tup [W.tup [W.int ↑n]], W.tup [W.tup [W.bl true]], W.tup [W.int 0], W.tup [W.tup [W.int 0, W.int 0]], W.tup [W.tup [W.int 1, W.int 0]], outW [[0], [1], [2], [3]]]
def valsB : List W := [W.tup [W.tup [W.int 0, W.int 1], W.tup [W.int 2]], W.tup [W.tup [W.int 0, W.int 1, W.int 2]], W.str (Str.ofString "ab")]
section
variable {c g : List Cell} {X : XP} {P : W → Sto → Prop} {n : Nat} {t : Bool} {f : Nat → Bool} {cu : List Int} {ws : List W} {o : List (List Nat)}
theorem flat4 : ∀ v : List (List Nat), (∀ x ∈ v, x.length ≤ 4) → v.flatten.length ≤ 4 * v.length
  | [], _ => by decide
  | x :: r, h => by
    have h1 := h x (List.mem_cons_self ..)
    have h2 := flat4 r fun y hy => h y (List.mem_cons_of_mem _ hy)
    rw [List.flatten_cons, List.length_append, List.length_cons]
    omega
def ValOk (c : List Cell) (ws : List W) (x : W) : Prop := ∃ b : Bool, F_is_outcome [.ref 3, x] (C c) = .ok (.bl b) (C c) ∧ ((∃ l, x = .tup l ∧ F__law_plain_in [x, .tup ws] (C c) = .ok (.bl b) (C c)) ∨ (b = false ∧ (x = .non ∨ (∃ i, x = .int i) ∨ ∃ s, x = .str s)))
theorem val_out {v : List (List Nat)} (hn1 : 1 ≤ n) (hn : n ≤ 4) (hq : c[3]? = some (raceC n t f cu)) (hp : F__law_plain_in [outW v, .tup ws] (C c) = .ok (.bl ((rawO n t f).contains v)) (C c))
    (h1 : sameV n t (absN n f) (rawO n t f) v = true) (h2 : v.length ≤ 8) (h3 : ∀ x ∈ v, x.length ≤ 4) : ValOk c ws (outW v) := by
  have h4 := flat4 v h3
  have h5 : isoB n t (absN n f) v = (rawO n t f).contains v := by
    unfold sameV at h1
    exact beq_iff_eq.mp h1
  refine ⟨(rawO n t f).contains v, ?_, .inl ⟨_, rfl, hp⟩⟩
  rw [← h5]
  exact isout_sp hn1 hn hq (v := outW v) (ys := v.map grpW) rfl (sqs_tup c v) (by omega) (by omega) fun x hx => by have := h3 x hx; omega
theorem val_ok (hn1 : 1 ≤ n) (hn : n ≤ 4) (hq : c[3]? = some (raceC n t f cu)) (hp : ∀ v, F__law_plain_in [outW v, .tup ws] (C c) = .ok (.bl ((rawO n t f).contains v)) (C c))
    (hno : ∀ v : W, (v = .tup [.tup [.bl true]] ∨ v = .tup [.int 0]) → F__law_plain_in [v, .tup ws] (C c) = .ok (.bl false) (C c))
    (hf : ∀ v ∈ fixV n, sameV n t (absN n f) (rawO n t f) v = true) (ho : ∀ v ∈ ownV o, sameV n t (absN n f) (rawO n t f) v = true) (h2 : o.length ≤ 4) (h3 : ∀ x ∈ o, x.length ≤ 4) : ∀ x ∈ valsA n o ++ valsB, ValOk c ws x := by
  intro x hx
  have own : ∀ v, v ∈ ownV o → v.length ≤ 8 → (∀ x ∈ v, x.length ≤ 4) → ValOk c ws (outW v) := fun v hv a b => val_out hn1 hn hq (hp v) (ho v hv) a b
  have fix : ∀ v, v ∈ fixV n → v.length ≤ 8 → (∀ x ∈ v, x.length ≤ 4) → ValOk c ws (outW v) := fun v hv a b => val_out hn1 hn hq (hp v) (hf v hv) a b
  unfold valsA valsB at hx
  simp only [List.cons_append, List.nil_append, List.mem_cons, List.not_mem_nil, or_false] at hx
  rcases hx with rfl | rfl | rfl | rfl | rfl | rfl | rfl | rfl | rfl | rfl | rfl | rfl | rfl | rfl | rfl | rfl | rfl
  · exact ⟨false, isout_no hq noseq_non, .inr ⟨rfl, .inl rfl⟩⟩
  · exact ⟨false, isout_no hq (noseq_int 5), .inr ⟨rfl, .inr (.inl ⟨5, rfl⟩)⟩⟩
  · exact fix [] (by simp [fixV]) (by simp) (by simp)
  · exact fix [[]] (by simp [fixV]) (by simp) (by simp)
  · exact own (o ++ [[]]) (by simp [ownV]) (by rw [List.length_append]; show o.length + 1 ≤ 8; omega) fun x hx => by
      rcases List.mem_append.mp hx with h | h
      · exact h3 x h
      · rw [List.mem_singleton.mp h]; exact Nat.zero_le _
  · exact own (o.drop 1) (by simp [ownV]) (by rw [List.length_drop]; omega) fun x hx => h3 x (List.mem_of_mem_drop hx)
  · exact own o.reverse (by simp [ownV]) (by rw [List.length_reverse]; omega) fun x hx => h3 x (List.mem_reverse.mp hx)
  · exact own (o ++ o.take 1) (by simp [ownV]) (by rw [List.length_append, List.length_take]; omega) fun x hx => by
      rcases List.mem_append.mp hx with h | h
      · exact h3 x h
      · exact h3 x (List.mem_of_mem_take h)
  · exact fix [[n]] (by simp [fixV]) (by simp) (by simp)
  · exact ⟨false, isout_odd1 hq, .inl ⟨_, rfl, hno _ (.inl rfl)⟩⟩
  · exact ⟨false, isout_odd2 hq, .inl ⟨_, rfl, hno _ (.inr rfl)⟩⟩
  · exact fix [[0, 0]] (by simp [fixV]) (by simp) (by simp)
  · exact fix [[1, 0]] (by simp [fixV]) (by simp) (by simp)
  · exact fix [[0], [1], [2], [3]] (by simp [fixV]) (by simp) (by simp)
  · exact fix [[0, 1], [2]] (by simp [fixV]) (by simp) (by simp)
  · exact fix [[0, 1, 2]] (by simp [fixV]) (by simp) (by simp)
  · exact ⟨false, isout_no hq (noseq_str _), .inr ⟨rfl, .inr (.inr ⟨_, rfl⟩)⟩⟩
end
end LW

set_option Elab.async false
set_option linter.all false
set_option maxRecDepth 100000
set_option maxHeartbeats 4000000
namespace LW
open PySem PySem.W RB L2
local macro_rules | `(tactic| exists $es,*) => `(tactic| simp (config := {decide := false, implicitDefEqProofs := false}) only [k_ok, k_exc, k_err, k_ite, k_iteS, k_nx, k_rt, k_loc, k_lit, k_nil, k_cons, k_tup, k_lst, k_bin, k_eB, k_eU, k_call, k_tru, k_not, k_and, k_or, k_if, k_eAnd, k_eOr, k_eNot, k_val, k_chain, k_sNil, k_sSeq, k_sSet, tgName, tgTup, tgCons, tgNil, Option.bind_some, k_sDrop, k_sRet, k_sRetN, k_sIf, k_sBreak, k_sCont, k_sFor, k_sRaise, k_sTry, k_defn, k_vSeq, k_rng1, k_comp,
  v_add, v_sub, v_mul, v_mod, v_div, v_lt, v_le, v_gt, v_ge, v_eq, v_ne, v_neg, v_int, v_min,
  List.map_cons, List.map_nil, List.length_cons, List.length_nil, List.replicate_succ, List.replicate_zero, List.cons_append, List.nil_append, List.append_nil, List.getElem?_cons_succ, List.getElem?_cons_zero, List.set_cons_succ, List.set_cons_zero,
  Nat.reduceAdd, Nat.reduceSub, Nat.zero_add, decide_eq_true_eq, Bool.not_eq_true', decide_eq_false_iff_not, Bool.true_eq_false, Bool.false_eq_true, if_true, if_false, ite_true, ite_false, ite_self, reduceIte, Nat.reduceLeDiff, true_and, and_true, $[$es:term],*])
def base4 (ns : List W) (row : List Int) (p : Int) (r : Cell) : List Cell := [.scr ns, .lst (row.map .int), .lst [.int p], r]
theorem S_C (ns : List W) (row : List Int) (p : Int) (r : Cell) (g : List Cell) : S ns row p (r :: g) = C (base4 ns row p r ++ g) := rfl
theorem pures_of : ∀ {ws : List W}, (∀ w ∈ ws, W.pure w = true) → W.pures ws = true
  | [], _ => rfl
  | w :: r, h => by
    show (W.pure w && W.pures r) = true
    rw [h w (List.mem_cons_self ..), pures_of fun x hx => h x (List.mem_cons_of_mem _ hx)]; rfl
theorem cut_from {α : Type} (xs : List α) : cutW xs (some 1) none = xs.drop 1 := by
  unfold cutW
  have e1 : HT.sIx xs.length xs.length none = xs.length := rfl
  have e2 : HT.sIx xs.length 0 (some 1) = min 1 xs.length := HT.sIx_nat _ _ 1
  rw [e1, e2]
  cases xs with
  | nil => rfl
  | cons x r =>
    rw [Nat.min_eq_left (by rw [List.length_cons]; omega)]
    exact List.take_of_length_le (by rw [List.length_drop]; omega)
theorem addO (a b : List (List Nat)) (h : a.length + b.length ≤ 1000000) (st : Sto) (X : XP) (P : W → Sto → Prop) : Ok (wAdd (outW a) (outW b) st) X P = P (outW (a ++ b)) st := by
  show Ok (if (a.map grpW).length + (b.map grpW).length ≤ 1000000 then Res.ok (W.tup (a.map grpW ++ b.map grpW)) st else .err) X P = _
  rw [if_pos (by rw [List.length_map, List.length_map]; exact h), ← List.map_append]
  rfl
theorem addL (a b : List W) (c' : List Cell) (X : XP) (P : W → Sto → Prop) (h : a.length + b.length ≤ 1000000) : Ok (wAdd (.ref c'.length) (.ref ((C c').push (.lst a)).c.length) (((C c').push (.lst a)).push (.lst b))) X P = P (.ref ((c' ++ [Cell.lst a]) ++ [Cell.lst b]).length) (C (((c' ++ [Cell.lst a]) ++ [Cell.lst b]) ++ [Cell.lst (a ++ b)])) := by
  have g1 : (((C c').push (.lst a)).push (.lst b)).c[c'.length]? = some (.lst a) := by
    show ((c' ++ [Cell.lst a]) ++ [Cell.lst b])[c'.length]? = _
    rw [List.append_assoc]; exact c_get
  have g2 : (((C c').push (.lst a)).push (.lst b)).c[((C c').push (.lst a)).c.length]? = some (.lst b) := c_get
  unfold wAdd
  dsimp only
  rw [g1, g2]
  dsimp only
  rw [if_pos h]
  rfl
theorem pure_law : Runs F_law := by
  intro zs hl hbits
  suffices h : Ok (F_law [.ref 0] ⟨[.scr (zs.map .int)], none⟩) (fun _ _ _ => False) fun a _ => a = .bl true by
    obtain ⟨a, st, e, rfl⟩ := run_ex h
    exact ⟨st, e⟩
  obtain ⟨row, R, hnum⟩ := numbers_ok hl hbits
  obtain ⟨n, t, f, cu, p1, hn, hcu, hp1, hrace⟩ := race_ok (ns := zs.map .int) (p := 0) (rest := []) R (by decide) (by decide) (most := 4) (by decide) (by decide)
  have hn4 : n ≤ 4 := by omega
  have hmade := made_ok (c := (S (zs.map .int) row p1 []).c) (t := t) (f := f) hn.1 hn4 hcu
  obtain ⟨ws, hout, hwl, _, hws⟩ := outcomes_ok2 (c := (S (zs.map .int) row p1 [raceC n t f cu]).c) (t := t) (f := f) (cu := cu) hn4
  obtain ⟨hwc, hwm⟩ := sort_mem2 raw_ne hws
  have hpos := raw_pos hn.1 hn4 t f
  have hwsl : ws.length ≤ 1200 := by
    rw [hwl]
    have h1 := flat75 hn4 t (subsF [[]] (absN n f))
    have abl : (absN n f).length ≤ 4 := by
      have := List.length_filter_le f (List.range n)
      rw [List.length_range] at this
      show ((List.range n).filter f).length ≤ 4
      omega
    have h2 := sub16 abl
    have h3 : (rawO n t f).length ≤ (subsF [[]] (absN n f)).length * 75 := h1
    omega
  have hsz : ∀ o ∈ rawO n t f, o.length < 1000000 ∧ ∀ x ∈ o, x.length < 1000000 := fun o ho => by
    have hv := raw_outv hn.1 hn4 ho
    have := hv.ok.len
    exact ⟨by omega, fun x hx => by have := hv.ok.grp x hx; omega⟩
  have hwp : W.pures ws = true := pures_of fun w hw => by
    obtain ⟨o, _, rfl⟩ := hwm w hw
    exact grps_pure o
  have hpo : F_outcomes [.ref 3] (S (zs.map .int) row p1 [raceC n t f cu]) = .ok (.tup ws) (S (zs.map .int) row p1 [raceC n t f cu]) :=
    poutcomes_ok (q := 3) (c := (S (zs.map .int) row p1 [raceC n t f cu]).c) hn.1 hn4 rfl ((same_of hn.1 hn4 t f).symm.trans hws) hwp
  have hso : F__law_so 6 [.tup ws, .tup ws] (S (zs.map .int) row p1 [raceC n t f cu]) = .ok (.bl true) (S (zs.map .int) row p1 [raceC n t f cu]) :=
    so_same (c := (S (zs.map .int) row p1 [raceC n t f cu]).c) (by omega) fun w hw => by
      obtain ⟨o, ho, e⟩ := hwm w hw
      exact ⟨o, e, hsz o ho⟩
  obtain ⟨v, hv, htk⟩ := takeK (ns := zs.map .int) (p := p1) R (by omega) (by omega) [raceC n t f cu] (lim := (ws.length : Nat)) (by omega)
  have hvn : v.toNat < ws.length := by omega
  obtain ⟨o, ho, hwo⟩ := hwm ws[v.toNat] (List.getElem_mem hvn)
  have hov := raw_outv hn.1 hn4 ho
  have hix : ∀ (st : Sto) (X : XP) (P : W → Sto → Prop), Ok (wIx (.tup ws) (.int v) st) X P = P (outW o) st := fun st X P => by
    refine v_ix (ws := ws) rfl ?_
    rw [atI_in hv.1 hv.2, List.getElem?_eq_getElem hvn, hwo]
  have hlen : ∀ (st : Sto) (X : XP) (P : W → Sto → Prop), Ok (fLen [.tup ws] st) X P = P (.int (ws.length : Nat)) st := fun st X P => v_lenL (by intro z h; cases h) rfl
  obtain ⟨u, hu, htu⟩ := takeK (ns := zs.map .int) (p := p1 + 1) R (by omega) (by omega) [raceC n t f cu] (lim := 2) (by decide)
  have hout' : F__law_outcomes [.tup [.int n, .bl t, .tup (absL n f), .tup (cu.map .int)]] (S (zs.map .int) row p1 [raceC n t f cu]) = .ok (.tup ws) (S (zs.map .int) row p1 [raceC n t f cu]) := hout
  unfold F_law
  generalize hT : sSeq (sSet (tgName 7) _) _ = T
  have q1 : (Sto.mk [Cell.scr (zs.map .int), .lst (row.map .int)] none).push (.lst [.int 0]) = S (zs.map .int) row 0 [] := rfl
  exists kk hnum, (by decide : (1 : Nat) ≤ 1000), q1, kk hrace, kk hmade
  have htr := try_ok hn.1 hn4 t f
  unfold tryV at htr
  rw [Bool.and_eq_true, List.all_eq_true, List.all_eq_true] at htr
  obtain ⟨htry1, htry2⟩ := htr
  have htry2 : ∀ o ∈ rawO n t f, (rawA 4 true [0, 1, 2, 3]).contains o = true ∧ ∀ v ∈ ownV o, sameV n t (absN n f) (rawO n t f) v = true := fun o ho => by
    have := htry2 o ho
    rw [Bool.and_eq_true, List.all_eq_true] at this
    exact this
  have h60 : o.flatten.length < 60 := by have := hov.fl; omega
  have h61 : o.length < 60 := by have := hov.ok.len; omega
  have h62 : ∀ x ∈ o, x.length < 60 := fun x hx => by have := hov.ok.grp x hx; omega
  have hiso : isoB n t (absN n f) o = true := by
    have e1 := isout_ok (c := base4 (zs.map .int) row 0 (raceC n t f cu)) (q := 3) (cu := cu) hn4 rfl hov
    have e2 := isout_sp (c := base4 (zs.map .int) row 0 (raceC n t f cu)) (q := 3) (n := n) (t := t) (f := f) (cu := cu) hn.1 hn4 rfl (v := outW o) (ys := o.map grpW) rfl (sqs_tup _ o) h60 h61 h62
    have e := e1.symm.trans e2
    injection e with e _
    injection e with e
    exact e.symm
  have hlo : ∃ (w : W) (g : List Cell), F__law_loose 6 [outW o, .int u] (S (zs.map .int) row (p1 + 1 + 1) [raceC n t f cu]) = .ok w (C (base4 (zs.map .int) row (p1 + 1 + 1) (raceC n t f cu) ++ g)) ∧ F_is_outcome [.ref 3, w] (C (base4 (zs.map .int) row (p1 + 1 + 1) (raceC n t f cu) ++ g)) = .ok (.bl true) (C (base4 (zs.map .int) row (p1 + 1 + 1) (raceC n t f cu) ++ g)) := by
    have mem : o ∈ rawA 4 true [0, 1, 2, 3] := by
      rw [← List.contains_iff_mem]; exact (htry2 o ho).1
    have : u = 0 ∨ u = 1 := by omega
    rcases this with rfl | rfl
    · refine ⟨_, [.lst (o.map grpW)], List.map_inj_left.mp (loose0 _ _ _ _) o mem, ?_⟩
      rw [isout_sp (q := 3) (n := n) (t := t) (f := f) (cu := cu) hn.1 hn4 rfl (ys := o.map grpW) rfl (sqs_tup _ o) h60 h61 h62, hiso]
    · refine ⟨_, lstC o, List.map_inj_left.mp (loose1 _ _ _ _) o mem, ?_⟩
      rw [isout_sp (q := 3) (n := n) (t := t) (f := f) (cu := cu) hn.1 hn4 rfl (ys := refsF 4 o.length) rfl (sqs_ref o (base4 (zs.map .int) row (p1 + 1 + 1) (raceC n t f cu))) h60 h61 h62, hiso]
  obtain ⟨w, g, hlo1, hlo2⟩ := hlo
  have hs1 : F__law_so 6 [.bl true, .bl true] (C (base4 (zs.map .int) row (p1 + 1 + 1) (raceC n t f cu) ++ g)) = .ok (.bl true) (C (base4 (zs.map .int) row (p1 + 1 + 1) (raceC n t f cu) ++ g)) := so_bl 5 true true
  exists kk hout', kk hpo, kk hso, truth, Bool.not_true, hlen, htk, hix, htu, kk hlo1, kk hlo2, kk hs1
  subst hT
  generalize hD : base4 (zs.map .int) row (p1 + 1 + 1) (raceC n t f cu) ++ g = D
  have hw1 : ∀ (st : Sto) (X : XP) (P : W → Sto → Prop), Ok (wAdd (outW o) (.tup [.tup []]) st) X P = P (outW (o ++ [[]])) st := addO o [[]] (by show o.length + 1 ≤ 1000000; omega)
  have hw2 : ∀ (st : Sto) (X : XP) (P : W → Sto → Prop), Ok (wAdd (outW o) (outW (o.take 1)) st) X P = P (outW (o ++ o.take 1)) st := addO o (o.take 1) (by rw [List.length_take]; omega)
  have hrv : ∀ (st : Sto) (X : XP) (P : W → Sto → Prop), Ok (fRev (outW o) st) X P = P (outW o.reverse) st := fun st X P => by
    show P (.tup (o.map grpW).reverse) st = _
    rw [← List.map_reverse]; rfl
  have hs1 : ∀ (a b c d e f' g h i : Option W) (st : Sto) (X : XP) (P : W → Sto → Prop), Ok (eSl (eLoc 6) (poSome (eLit (.int 1))) poNone [a, b, c, d, e, f', some (outW o), g, h, i] st) X P = P (outW (o.drop 1)) st := fun a b c d e f' g h i st X P => by
    show P (.tup (cutW (o.map grpW) (some 1) none)) st = _
    rw [cut_from, ← List.map_drop]; rfl
  have hs2 : ∀ (a b c d e f' g h i : Option W) (st : Sto) (X : XP) (P : W → Sto → Prop), Ok (eSl (eLoc 6) poNone (poSome (eLit (.int 1))) [a, b, c, d, e, f', some (outW o), g, h, i] st) X P = P (outW (o.take 1)) st := fun a b c d e f' g h i st X P => by
    show P (.tup (cutW (o.map grpW) none (some ((1 : Nat) : Int)))) st = _
    rw [cut_to, ← List.map_take]; rfl
  have hr0 : ∀ (a : List W) (st : Sto) (X : XP) (P : W → Sto → Prop), Ok (wIx (.tup (.int n :: a)) (.int 0) st) X P = P (.int n) st := fun a st X P => v_ix (ws := .int n :: a) rfl (by
    rw [atI_in (by decide) (by rw [List.length_cons]; omega)]; rfl)
  exists hw1, hs1, hrv, hs2, hw2, hr0, (by decide : (-1000000 : Int) ≤ 4), (by decide : (4 : Int) ≤ 1000000)
  refine cl_map (c := D) (ws := upFrom 0 (Int.toNat 4)) (fun us i => rfl) (fun w => .tup [w]) (by show 4 < 1000000; decide) (fun w hw => ⟨_, fun _ => rfl, ?_, fun us => rfl⟩) ?_
  · obtain ⟨k, hk, rfl⟩ := up_mem hw
    rfl
  have hft : ∀ (X : XP) (P : W → Sto → Prop), Ok (fTuple [.ref D.length] (C (D ++ [Cell.lst ((upFrom 0 (Int.toNat 4)).map fun w => .tup [w])]))) X P = P (outW [[0], [1], [2], [3]]) (C (D ++ [Cell.lst ((upFrom 0 (Int.toNat 4)).map fun w => .tup [w])])) := fun X P => by
    unfold fTuple
    dsimp only
    rw [c_seq]
    rfl
  rw [hft]
  generalize hE : D ++ [Cell.lst ((upFrom 0 (Int.toNat 4)).map fun w => W.tup [w])] = E
  show Ok (wAdd (.ref E.length) (.ref ((C E).push (.lst (valsA n o))).c.length) (((C E).push (.lst (valsA n o))).push (.lst valsB))) _ _
  rw [addL _ _ _ _ _ (by show 14 + 3 ≤ 1000000; decide)]
  obtain ⟨g3, hF⟩ : ∃ g3, (E ++ [Cell.lst (valsA n o)]) ++ [Cell.lst valsB] = base4 (zs.map .int) row (p1 + 1 + 1) (raceC n t f cu) ++ g3 := ⟨((g ++ [Cell.lst ((upFrom 0 (Int.toNat 4)).map fun w => W.tup [w])]) ++ [Cell.lst (valsA n o)]) ++ [Cell.lst valsB], by rw [← hE, ← hD, List.append_assoc, List.append_assoc, List.append_assoc, List.append_assoc, List.append_assoc]⟩
  rw [hF, v_lenL (by intro z h; cases h) (c_seq (ws := valsA n o ++ valsB))]
  obtain ⟨j, hj, htj⟩ := takeK (ns := zs.map .int) (p := p1 + 1 + 1) R (by omega) (by omega) (raceC n t f cu :: (g3 ++ [Cell.lst (valsA n o ++ valsB)])) (lim := 17) (by decide)
  rw [show Sto.mk ((base4 (zs.map .int) row (p1 + 1 + 1) (raceC n t f cu) ++ g3) ++ [Cell.lst (valsA n o ++ valsB)]) none = S (zs.map .int) row (p1 + 1 + 1) (raceC n t f cu :: (g3 ++ [Cell.lst (valsA n o ++ valsB)])) by rw [List.append_assoc]; rfl]
  rw [show W.int (((valsA n o ++ valsB).length : Nat) : Int) = W.int 17 from rfl, htj]
  rw [show S (zs.map .int) row (p1 + 1 + 1 + 1) (raceC n t f cu :: (g3 ++ [Cell.lst (valsA n o ++ valsB)])) = C ((base4 (zs.map .int) row (p1 + 1 + 1 + 1) (raceC n t f cu) ++ g3) ++ [Cell.lst (valsA n o ++ valsB)]) by rw [List.append_assoc]; rfl]
  have hk : (base4 (zs.map .int) row (p1 + 1 + 1) (raceC n t f cu) ++ g3).length = (base4 (zs.map .int) row (p1 + 1 + 1 + 1) (raceC n t f cu) ++ g3).length := by rw [List.length_append, List.length_append]; rfl
  rw [hk]
  have hjn : j.toNat < (valsA n o ++ valsB).length := by show j.toNat < 17; omega
  have hval : (valsA n o ++ valsB)[j.toNat]? = some ((valsA n o ++ valsB)[j.toNat]) := List.getElem?_eq_getElem hjn
  generalize hx : (valsA n o ++ valsB)[j.toNat] = x at hval
  have hxm : x ∈ valsA n o ++ valsB := List.mem_of_getElem? hval
  rw [v_ix (ws := valsA n o ++ valsB) c_seq (by rw [atI_in hj.1 (by show j < 17; exact hj.2)]; exact hval)]
  have hq3 : ((base4 (zs.map .int) row (p1 + 1 + 1 + 1) (raceC n t f cu) ++ g3) ++ [Cell.lst (valsA n o ++ valsB)])[3]? = some (raceC n t f cu) := rfl
  generalize hZ : (base4 (zs.map .int) row (p1 + 1 + 1 + 1) (raceC n t f cu) ++ g3) ++ [Cell.lst (valsA n o ++ valsB)] = Z at hq3
  have hz1 : 1 ≤ Z.length := by rw [← hZ, List.length_append, List.length_append]; show 1 ≤ 4 + _ + _; omega
  obtain ⟨b, hb1, hb2⟩ := val_ok (o := o) (ws := ws) hn.1 hn4 hq3 (fun v => plain_ok (by omega) hwm hwc hsz) (fun v hv => plain_not (by omega) fun w hw => by
    obtain ⟨o2, ho2, rfl⟩ := hwm w hw
    rcases hv with rfl | rfl
    · exact so_odd1 (hsz o2 ho2).1 (hsz o2 ho2).2
    · exact so_odd2 (hsz o2 ho2).1) htry1 (htry2 o ho).2 hov.ok.len (fun x hx => hov.ok.grp x hx) x hxm
  have hsb : F__law_so 6 [.bl b, .bl b] (C Z) = .ok (.bl true) (C Z) := by rw [so_bl 5 b b, decide_eq_true rfl]
  rcases hb2 with ⟨l, rfl, hb2⟩ | ⟨rfl, rfl | ⟨i, rfl⟩ | ⟨i, rfl⟩⟩
  · exists kk hb1, k_isi, tnOf, ans_tuple, kk hb2, kk hsb
    rw [k_trim rfl]
  · exists kk hb1, k_isi, tnOf, ans_tuple, kk hsb
    rw [k_trim rfl]
  · exists kk hb1, k_isi, tnOf, ans_tuple, kk hsb
    rw [k_trim rfl]
  · exists kk hb1, k_isi, tnOf, ans_tuple, kk hsb
    rw [k_trim rfl]
end LW

set_option Elab.async false
set_option linter.all false
set_option maxRecDepth 100000
set_option maxHeartbeats 4000000
namespace LW
open PySem PySem.Spec PyProof.Rows L2 RB
theorem all_mk {P : Program} {w : World} {K : PySem.W.Frag} {h : Heap} {mg : Str → Option Value} {fa : Addr} (X : K.In h) (G : h.Ns mainGlobals mg) (hfa : mg "law" = some (.ref fa))
    {C_Race D_BadValue I_BadValue N_BadValue B_BadValue_BookError f_is_integer f_is_integer_within f_is_sequence f_need_race f__subsets f_Race_absent p_Race_absent f_Race_runners p_Race_runners f__may_come_level f__without f__orders f_Race_ties p_Race_ties f_outcomes f_running_in f__are_runners f__is_ascending f__is_group f_is_outcome f__are_cuts f__law_so f__law_numbers f__law_draw f__law_take f__law_loose f__law_race f_Race_init T_Race_init e1_Race_init e2_Race_init f__law_made f__law_subsets f__law_orders f__law_outcomes f__law_plain_in f_law f_Race_cuts p_Race_cuts : Addr} {oc_BadValue dc_BadValue pm_BadValue cd_BadValue ct_BadValue oc_is_integer kV_is_integer dc_is_integer pm_is_integer cd_is_integer ct_is_integer oc_is_integer_within kV_is_integer_within dc_is_integer_within pm_is_integer_within cd_is_integer_within ct_is_integer_within oc_is_sequence kV_is_sequence dc_is_sequence pm_is_sequence cd_is_sequence ct_is_sequence oc_need_race kV_need_race dc_need_race pm_need_race cd_need_race ct_need_race oc__subsets kV__subsets dc__subsets pm__subsets cd__subsets ct__subsets oc_Race_absent kV_Race_absent dc_Race_absent pm_Race_absent cd_Race_absent ct_Race_absent oc_Race_runners kV_Race_runners dc_Race_runners pm_Race_runners cd_Race_runners ct_Race_runners oc__may_come_level kV__may_come_level dc__may_come_level pm__may_come_level cd__may_come_level ct__may_come_level oc__without kV__without dc__without pm__without cd__without ct__without oc__orders kV__orders dc__orders pm__orders cd__orders ct__orders oc_Race_ties kV_Race_ties dc_Race_ties pm_Race_ties cd_Race_ties ct_Race_ties oc_outcomes kV_outcomes dc_outcomes pm_outcomes cd_outcomes ct_outcomes oc_running_in kV_running_in dc_running_in pm_running_in cd_running_in ct_running_in oc__are_runners kV__are_runners dc__are_runners pm__are_runners cd__are_runners ct__are_runners oc__is_ascending kV__is_ascending dc__is_ascending pm__is_ascending cd__is_ascending ct__is_ascending oc__is_group kV__is_group dc__is_group pm__is_group cd__is_group ct__is_group oc_is_outcome kV_is_outcome dc_is_outcome pm_is_outcome cd_is_outcome ct_is_outcome oc__are_cuts kV__are_cuts dc__are_cuts pm__are_cuts cd__are_cuts ct__are_cuts oc__law_so kV__law_so dc__law_so pm__law_so cd__law_so ct__law_so oc__law_numbers kV__law_numbers dc__law_numbers pm__law_numbers cd__law_numbers ct__law_numbers oc__law_draw kV__law_draw dc__law_draw pm__law_draw cd__law_draw ct__law_draw oc__law_take kV__law_take dc__law_take pm__law_take cd__law_take ct__law_take oc__law_loose kV__law_loose dc__law_loose pm__law_loose cd__law_loose ct__law_loose oc__law_race kV__law_race dc__law_race pm__law_race cd__law_race ct__law_race oc_Race_init kV_Race_init dc_Race_init pm_Race_init cd_Race_init ct_Race_init oT_Race_init oc__law_made kV__law_made dc__law_made pm__law_made cd__law_made ct__law_made oc__law_subsets kV__law_subsets dc__law_subsets pm__law_subsets cd__law_subsets ct__law_subsets oc__law_orders kV__law_orders dc__law_orders pm__law_orders cd__law_orders ct__law_orders oc__law_outcomes kV__law_outcomes dc__law_outcomes pm__law_outcomes cd__law_outcomes ct__law_outcomes oc__law_plain_in kV__law_plain_in dc__law_plain_in pm__law_plain_in cd__law_plain_in ct__law_plain_in oc_law kV_law dc_law pm_law cd_law ct_law oc_Race_cuts kV_Race_cuts dc_Race_cuts pm_Race_cuts cd_Race_cuts ct_Race_cuts : Value} {od_BadValue an_BadValue od_is_integer an_is_integer od_is_integer_within an_is_integer_within od_is_sequence an_is_sequence od_need_race an_need_race od__subsets an__subsets od_Race_absent an_Race_absent od_Race_runners an_Race_runners od__may_come_level an__may_come_level od__without an__without od__orders an__orders od_Race_ties an_Race_ties od_outcomes an_outcomes od_running_in an_running_in od__are_runners an__are_runners od__is_ascending an__is_ascending od__is_group an__is_group od_is_outcome an_is_outcome od__are_cuts an__are_cuts od__law_so an__law_so od__law_numbers an__law_numbers od__law_draw an__law_draw od__law_take an__law_take od__law_loose an__law_loose od__law_race an__law_race od_Race_init an_Race_init dT_Race_init od__law_made an__law_made od__law_subsets an__law_subsets od__law_orders an__law_orders od__law_outcomes an__law_outcomes od__law_plain_in an__law_plain_in od_law an_law od_Race_cuts an_Race_cuts : Option Addr} {sl_BadValue sl_is_integer sl_is_integer_within sl_is_sequence sl_need_race sl__subsets sl_Race_absent sl_Race_runners sl__may_come_level sl__without sl__orders sl_Race_ties sl_outcomes sl_running_in sl__are_runners sl__is_ascending sl__is_group sl_is_outcome sl__are_cuts sl__law_so sl__law_numbers sl__law_draw sl__law_take sl__law_loose sl__law_race sl_Race_init sT_Race_init sl__law_made sl__law_subsets sl__law_orders sl__law_outcomes sl__law_plain_in sl_law sl_Race_cuts : Array (Option Value)} {tk_MOST_CUT tk_MOST_RUNNERS : Tok} {nm_BadValue q_BadValue : Str} {bs_BadValue sub_BadValue : List Value} {sn_BadValue : List Str} {ab_BadValue : Bool} {col_BadValue : Option Bool} {dd_BadValue : Option Addr} {k0_BadValue k1_BadValue k2_BadValue k3_BadValue k5_BadValue : Option Value} {re_Race_absent : List Value} {re_Race_runners : List Value} {re_Race_ties : List Value} {nT_Race_init : Nat} {re_Race_cuts : List Value}
    (a_Race : PySem.W.nsIn K mainGlobals "Race" = some (some (.ref C_Race)))
    (pg_Race : PySem.W.plainGet K C_Race Str.empty = true)
    (hd_Race : PySem.W.hasDictIn K C_Race = true)
    (po_Race : PySem.W.plainOver K C_Race = true)
    (sa_Race : PySem.W.findIn K (.ref C_Race) "__setattr__" = some (some (.builtin "object.__setattr__")))
    (ha_Race : PySem.W.findIn K (.ref C_Race) "__class__" = some (some (.builtin "object.__class__")))
    (mo_Race : PySem.W.mroIn K C_Race (.type "object") = some true)
    (mk_Race : PySem.W.makesIn K C_Race = true)
    (kc_Race : PySem.W.keepIn K (.ref C_Race) = true)
    (hn : PySem.W.specialIn K (.builtin "object.__class__") "__get__" = some (some (.builtin "getset_descriptor.__get__")))
    (ht : PySem.W.takesIn K (.builtin "object.__class__") = some true)
    (z_all : PySem.W.nsIn K mainGlobals "all" = some none)
    (z_bool : PySem.W.nsIn K mainGlobals "bool" = some none)
    (z_int : PySem.W.nsIn K mainGlobals "int" = some none)
    (z_isinstance : PySem.W.nsIn K mainGlobals "isinstance" = some none)
    (z_len : PySem.W.nsIn K mainGlobals "len" = some none)
    (z_list : PySem.W.nsIn K mainGlobals "list" = some none)
    (z_range : PySem.W.nsIn K mainGlobals "range" = some none)
    (z_set : PySem.W.nsIn K mainGlobals "set" = some none)
    (z_sorted : PySem.W.nsIn K mainGlobals "sorted" = some none)
    (z_str : PySem.W.nsIn K mainGlobals "str" = some none)
    (z_tuple : PySem.W.nsIn K mainGlobals "tuple" = some none)
    (n_Race__absent : PySem.W.findIn K (.ref C_Race) "_absent" = some none)
    (n_Race__cuts : PySem.W.findIn K (.ref C_Race) "_cuts" = some none)
    (n_Race__runners : PySem.W.findIn K (.ref C_Race) "_runners" = some none)
    (n_Race__ties : PySem.W.findIn K (.ref C_Race) "_ties" = some none)
    (k_MOST_CUT : PySem.W.nsIn K mainGlobals "MOST_CUT" = some (some (.int 90 tk_MOST_CUT)))
    (k_MOST_RUNNERS : PySem.W.nsIn K mainGlobals "MOST_RUNNERS" = some (some (.int 4 tk_MOST_RUNNERS)))
    (a_BadValue : PySem.W.nsIn K mainGlobals "BadValue" = some (some (.ref D_BadValue)))
    (x_BadValue : K.lookup D_BadValue = some (excClassObj nm_BadValue q_BadValue D_BadValue N_BadValue bs_BadValue [.ref B_BadValue_BookError, .type "Exception", .type "BaseException", .type "object"] true sn_BadValue sub_BadValue ab_BadValue col_BadValue dd_BadValue k0_BadValue k1_BadValue k2_BadValue k3_BadValue k5_BadValue "Exception.__new__"))
    (sa_BadValue : PySem.W.findIn K (.ref D_BadValue) "__setattr__" = some (some (.builtin "object.__setattr__")))
    (ga_BadValue : PySem.W.findIn K (.ref D_BadValue) "__getattribute__" = some (some (.builtin "BaseException.__getattribute__")))
    (gg_BadValue : PySem.W.findIn K (.ref D_BadValue) "__getattr__" = some none)
    (nf_BadValue : PySem.W.findIn K (.ref D_BadValue) "at" = some none)
    (kc_BadValue : PySem.W.keepIn K (.ref D_BadValue) = true)
    (ex_BadValue : PySem.W.subIn K (.ref D_BadValue) (.type "BaseException") = some true)
    (ty_BadValue : PySem.W.typeIn K (.ref D_BadValue) = some (.type "type"))
    (hd_BadValue : PySem.W.hasDictIn K D_BadValue = true)
    (fi_BadValue : PySem.W.findIn K (.ref D_BadValue) "__init__" = some (some (.ref I_BadValue)))
    (ti_BadValue : PySem.W.typeIn K (.ref I_BadValue) = some (.type "function"))
    (l_BadValue : K.lookup I_BadValue = some ⟨oc_BadValue, od_BadValue, .func (PySem.W.fnOf "__init__" "BadValue.__init__" (defArgs (inClass (top 2) 0)) (defBody (inClass (top 2) 0)) (defScope (inClass (top 2) 0)) .none .none dc_BadValue pm_BadValue an_BadValue cd_BadValue ct_BadValue), sl_BadValue⟩)
    (c_BadValue : PySem.W.codeIn K cd_BadValue "BadValue.__init__" = true)
    (ic_Race : PySem.W.isClsIn K C_Race = true)
    (ty_Race : PySem.W.typeIn K (.ref C_Race) = some (.type "type"))
    (su_Race_int : PySem.W.subIn K (.ref C_Race) (.type "int") = some false)
    (su_Race_bool : PySem.W.subIn K (.ref C_Race) (.type "bool") = some false)
    (su_Race_list : PySem.W.subIn K (.ref C_Race) (.type "list") = some false)
    (su_Race_tuple : PySem.W.subIn K (.ref C_Race) (.type "tuple") = some false)
    (su_Race_str : PySem.W.subIn K (.ref C_Race) (.type "str") = some false)
    (a_is_integer : PySem.W.nsIn K mainGlobals "is_integer" = some (some (.ref f_is_integer)))
    (l_is_integer : K.lookup f_is_integer = some ⟨oc_is_integer, od_is_integer, .func (PySem.W.fnOf "is_integer" "is_integer" (defArgs s_is_integer) (defBody s_is_integer) (defScope s_is_integer) .none kV_is_integer dc_is_integer pm_is_integer an_is_integer cd_is_integer ct_is_integer), sl_is_integer⟩)
    (c_is_integer : PySem.W.codeIn K cd_is_integer "is_integer" = true)
    (k_is_integer_ : PySem.W.keepIn K (.ref f_is_integer) = true)
    (a_is_integer_within : PySem.W.nsIn K mainGlobals "is_integer_within" = some (some (.ref f_is_integer_within)))
    (l_is_integer_within : K.lookup f_is_integer_within = some ⟨oc_is_integer_within, od_is_integer_within, .func (PySem.W.fnOf "is_integer_within" "is_integer_within" (defArgs s_is_integer_within) (defBody s_is_integer_within) (defScope s_is_integer_within) .none kV_is_integer_within dc_is_integer_within pm_is_integer_within an_is_integer_within cd_is_integer_within ct_is_integer_within), sl_is_integer_within⟩)
    (c_is_integer_within : PySem.W.codeIn K cd_is_integer_within "is_integer_within" = true)
    (k_is_integer_within_ : PySem.W.keepIn K (.ref f_is_integer_within) = true)
    (a_is_sequence : PySem.W.nsIn K mainGlobals "is_sequence" = some (some (.ref f_is_sequence)))
    (l_is_sequence : K.lookup f_is_sequence = some ⟨oc_is_sequence, od_is_sequence, .func (PySem.W.fnOf "is_sequence" "is_sequence" (defArgs s_is_sequence) (defBody s_is_sequence) (defScope s_is_sequence) .none kV_is_sequence dc_is_sequence pm_is_sequence an_is_sequence cd_is_sequence ct_is_sequence), sl_is_sequence⟩)
    (c_is_sequence : PySem.W.codeIn K cd_is_sequence "is_sequence" = true)
    (k_is_sequence_ : PySem.W.keepIn K (.ref f_is_sequence) = true)
    (a_need_race : PySem.W.nsIn K mainGlobals "need_race" = some (some (.ref f_need_race)))
    (l_need_race : K.lookup f_need_race = some ⟨oc_need_race, od_need_race, .func (PySem.W.fnOf "need_race" "need_race" (defArgs s_need_race) (defBody s_need_race) (defScope s_need_race) .none kV_need_race dc_need_race pm_need_race an_need_race cd_need_race ct_need_race), sl_need_race⟩)
    (c_need_race : PySem.W.codeIn K cd_need_race "need_race" = true)
    (k_need_race_ : PySem.W.keepIn K (.ref f_need_race) = true)
    (a__subsets : PySem.W.nsIn K mainGlobals "_subsets" = some (some (.ref f__subsets)))
    (l__subsets : K.lookup f__subsets = some ⟨oc__subsets, od__subsets, .func (PySem.W.fnOf "_subsets" "_subsets" (defArgs s__subsets) (defBody s__subsets) (defScope s__subsets) .none kV__subsets dc__subsets pm__subsets an__subsets cd__subsets ct__subsets), sl__subsets⟩)
    (c__subsets : PySem.W.codeIn K cd__subsets "_subsets" = true)
    (k__subsets_ : PySem.W.keepIn K (.ref f__subsets) = true)
    (a_Race_absent : PySem.W.findIn K (.ref C_Race) "absent" = some (some (.ref p_Race_absent)))
    (pr_Race_absent : PySem.W.recIn K p_Race_absent "property" = some (.ref f_Race_absent :: re_Race_absent))
    (pt_Race_absent : PySem.W.specialIn K (.ref p_Race_absent) "__get__" = some (some (.builtin "property.__get__")))
    (pk_Race_absent : PySem.W.takesIn K (.ref p_Race_absent) = some true)
    (l_Race_absent : K.lookup f_Race_absent = some ⟨oc_Race_absent, od_Race_absent, .func (PySem.W.fnOf "absent" "Race.absent" (defArgs s_Race_absent) (defBody s_Race_absent) (defScope s_Race_absent) .none kV_Race_absent dc_Race_absent pm_Race_absent an_Race_absent cd_Race_absent ct_Race_absent), sl_Race_absent⟩)
    (c_Race_absent : PySem.W.codeIn K cd_Race_absent "Race.absent" = true)
    (k_Race_absent_ : PySem.W.keepIn K (.ref f_Race_absent) = true)
    (a_Race_runners : PySem.W.findIn K (.ref C_Race) "runners" = some (some (.ref p_Race_runners)))
    (pr_Race_runners : PySem.W.recIn K p_Race_runners "property" = some (.ref f_Race_runners :: re_Race_runners))
    (pt_Race_runners : PySem.W.specialIn K (.ref p_Race_runners) "__get__" = some (some (.builtin "property.__get__")))
    (pk_Race_runners : PySem.W.takesIn K (.ref p_Race_runners) = some true)
    (l_Race_runners : K.lookup f_Race_runners = some ⟨oc_Race_runners, od_Race_runners, .func (PySem.W.fnOf "runners" "Race.runners" (defArgs s_Race_runners) (defBody s_Race_runners) (defScope s_Race_runners) .none kV_Race_runners dc_Race_runners pm_Race_runners an_Race_runners cd_Race_runners ct_Race_runners), sl_Race_runners⟩)
    (c_Race_runners : PySem.W.codeIn K cd_Race_runners "Race.runners" = true)
    (k_Race_runners_ : PySem.W.keepIn K (.ref f_Race_runners) = true)
    (a__may_come_level : PySem.W.nsIn K mainGlobals "_may_come_level" = some (some (.ref f__may_come_level)))
    (l__may_come_level : K.lookup f__may_come_level = some ⟨oc__may_come_level, od__may_come_level, .func (PySem.W.fnOf "_may_come_level" "_may_come_level" (defArgs s__may_come_level) (defBody s__may_come_level) (defScope s__may_come_level) .none kV__may_come_level dc__may_come_level pm__may_come_level an__may_come_level cd__may_come_level ct__may_come_level), sl__may_come_level⟩)
    (c__may_come_level : PySem.W.codeIn K cd__may_come_level "_may_come_level" = true)
    (k__may_come_level_ : PySem.W.keepIn K (.ref f__may_come_level) = true)
    (a__without : PySem.W.nsIn K mainGlobals "_without" = some (some (.ref f__without)))
    (l__without : K.lookup f__without = some ⟨oc__without, od__without, .func (PySem.W.fnOf "_without" "_without" (defArgs s__without) (defBody s__without) (defScope s__without) .none kV__without dc__without pm__without an__without cd__without ct__without), sl__without⟩)
    (c__without : PySem.W.codeIn K cd__without "_without" = true)
    (k__without_ : PySem.W.keepIn K (.ref f__without) = true)
    (a__orders : PySem.W.nsIn K mainGlobals "_orders" = some (some (.ref f__orders)))
    (l__orders : K.lookup f__orders = some ⟨oc__orders, od__orders, .func (PySem.W.fnOf "_orders" "_orders" (defArgs s__orders) (defBody s__orders) (defScope s__orders) .none kV__orders dc__orders pm__orders an__orders cd__orders ct__orders), sl__orders⟩)
    (c__orders : PySem.W.codeIn K cd__orders "_orders" = true)
    (k__orders_ : PySem.W.keepIn K (.ref f__orders) = true)
    (a_Race_ties : PySem.W.findIn K (.ref C_Race) "ties" = some (some (.ref p_Race_ties)))
    (pr_Race_ties : PySem.W.recIn K p_Race_ties "property" = some (.ref f_Race_ties :: re_Race_ties))
    (pt_Race_ties : PySem.W.specialIn K (.ref p_Race_ties) "__get__" = some (some (.builtin "property.__get__")))
    (pk_Race_ties : PySem.W.takesIn K (.ref p_Race_ties) = some true)
    (l_Race_ties : K.lookup f_Race_ties = some ⟨oc_Race_ties, od_Race_ties, .func (PySem.W.fnOf "ties" "Race.ties" (defArgs s_Race_ties) (defBody s_Race_ties) (defScope s_Race_ties) .none kV_Race_ties dc_Race_ties pm_Race_ties an_Race_ties cd_Race_ties ct_Race_ties), sl_Race_ties⟩)
    (c_Race_ties : PySem.W.codeIn K cd_Race_ties "Race.ties" = true)
    (k_Race_ties_ : PySem.W.keepIn K (.ref f_Race_ties) = true)
    (a_outcomes : PySem.W.nsIn K mainGlobals "outcomes" = some (some (.ref f_outcomes)))
    (l_outcomes : K.lookup f_outcomes = some ⟨oc_outcomes, od_outcomes, .func (PySem.W.fnOf "outcomes" "outcomes" (defArgs s_outcomes) (defBody s_outcomes) (defScope s_outcomes) .none kV_outcomes dc_outcomes pm_outcomes an_outcomes cd_outcomes ct_outcomes), sl_outcomes⟩)
    (c_outcomes : PySem.W.codeIn K cd_outcomes "outcomes" = true)
    (k_outcomes_ : PySem.W.keepIn K (.ref f_outcomes) = true)
    (a_running_in : PySem.W.nsIn K mainGlobals "running_in" = some (some (.ref f_running_in)))
    (l_running_in : K.lookup f_running_in = some ⟨oc_running_in, od_running_in, .func (PySem.W.fnOf "running_in" "running_in" (defArgs s_running_in) (defBody s_running_in) (defScope s_running_in) .none kV_running_in dc_running_in pm_running_in an_running_in cd_running_in ct_running_in), sl_running_in⟩)
    (c_running_in : PySem.W.codeIn K cd_running_in "running_in" = true)
    (k_running_in_ : PySem.W.keepIn K (.ref f_running_in) = true)
    (a__are_runners : PySem.W.nsIn K mainGlobals "_are_runners" = some (some (.ref f__are_runners)))
    (l__are_runners : K.lookup f__are_runners = some ⟨oc__are_runners, od__are_runners, .func (PySem.W.fnOf "_are_runners" "_are_runners" (defArgs s__are_runners) (defBody s__are_runners) (defScope s__are_runners) .none kV__are_runners dc__are_runners pm__are_runners an__are_runners cd__are_runners ct__are_runners), sl__are_runners⟩)
    (c__are_runners : PySem.W.codeIn K cd__are_runners "_are_runners" = true)
    (k__are_runners_ : PySem.W.keepIn K (.ref f__are_runners) = true)
    (a__is_ascending : PySem.W.nsIn K mainGlobals "_is_ascending" = some (some (.ref f__is_ascending)))
    (l__is_ascending : K.lookup f__is_ascending = some ⟨oc__is_ascending, od__is_ascending, .func (PySem.W.fnOf "_is_ascending" "_is_ascending" (defArgs s__is_ascending) (defBody s__is_ascending) (defScope s__is_ascending) .none kV__is_ascending dc__is_ascending pm__is_ascending an__is_ascending cd__is_ascending ct__is_ascending), sl__is_ascending⟩)
    (c__is_ascending : PySem.W.codeIn K cd__is_ascending "_is_ascending" = true)
    (k__is_ascending_ : PySem.W.keepIn K (.ref f__is_ascending) = true)
    (a__is_group : PySem.W.nsIn K mainGlobals "_is_group" = some (some (.ref f__is_group)))
    (l__is_group : K.lookup f__is_group = some ⟨oc__is_group, od__is_group, .func (PySem.W.fnOf "_is_group" "_is_group" (defArgs s__is_group) (defBody s__is_group) (defScope s__is_group) .none kV__is_group dc__is_group pm__is_group an__is_group cd__is_group ct__is_group), sl__is_group⟩)
    (c__is_group : PySem.W.codeIn K cd__is_group "_is_group" = true)
    (k__is_group_ : PySem.W.keepIn K (.ref f__is_group) = true)
    (a_is_outcome : PySem.W.nsIn K mainGlobals "is_outcome" = some (some (.ref f_is_outcome)))
    (l_is_outcome : K.lookup f_is_outcome = some ⟨oc_is_outcome, od_is_outcome, .func (PySem.W.fnOf "is_outcome" "is_outcome" (defArgs s_is_outcome) (defBody s_is_outcome) (defScope s_is_outcome) .none kV_is_outcome dc_is_outcome pm_is_outcome an_is_outcome cd_is_outcome ct_is_outcome), sl_is_outcome⟩)
    (c_is_outcome : PySem.W.codeIn K cd_is_outcome "is_outcome" = true)
    (k_is_outcome_ : PySem.W.keepIn K (.ref f_is_outcome) = true)
    (a__are_cuts : PySem.W.nsIn K mainGlobals "_are_cuts" = some (some (.ref f__are_cuts)))
    (l__are_cuts : K.lookup f__are_cuts = some ⟨oc__are_cuts, od__are_cuts, .func (PySem.W.fnOf "_are_cuts" "_are_cuts" (defArgs s__are_cuts) (defBody s__are_cuts) (defScope s__are_cuts) .none kV__are_cuts dc__are_cuts pm__are_cuts an__are_cuts cd__are_cuts ct__are_cuts), sl__are_cuts⟩)
    (c__are_cuts : PySem.W.codeIn K cd__are_cuts "_are_cuts" = true)
    (k__are_cuts_ : PySem.W.keepIn K (.ref f__are_cuts) = true)
    (a__law_so : PySem.W.nsIn K mainGlobals "_law_so" = some (some (.ref f__law_so)))
    (l__law_so : K.lookup f__law_so = some ⟨oc__law_so, od__law_so, .func (PySem.W.fnOf "_law_so" "_law_so" (defArgs s__law_so) (defBody s__law_so) (defScope s__law_so) .none kV__law_so dc__law_so pm__law_so an__law_so cd__law_so ct__law_so), sl__law_so⟩)
    (c__law_so : PySem.W.codeIn K cd__law_so "_law_so" = true)
    (k__law_so_ : PySem.W.keepIn K (.ref f__law_so) = true)
    (a__law_numbers : PySem.W.nsIn K mainGlobals "_law_numbers" = some (some (.ref f__law_numbers)))
    (l__law_numbers : K.lookup f__law_numbers = some ⟨oc__law_numbers, od__law_numbers, .func (PySem.W.fnOf "_law_numbers" "_law_numbers" (defArgs s__law_numbers) (defBody s__law_numbers) (defScope s__law_numbers) .none kV__law_numbers dc__law_numbers pm__law_numbers an__law_numbers cd__law_numbers ct__law_numbers), sl__law_numbers⟩)
    (c__law_numbers : PySem.W.codeIn K cd__law_numbers "_law_numbers" = true)
    (k__law_numbers_ : PySem.W.keepIn K (.ref f__law_numbers) = true)
    (a__law_draw : PySem.W.nsIn K mainGlobals "_law_draw" = some (some (.ref f__law_draw)))
    (l__law_draw : K.lookup f__law_draw = some ⟨oc__law_draw, od__law_draw, .func (PySem.W.fnOf "_law_draw" "_law_draw" (defArgs s__law_draw) (defBody s__law_draw) (defScope s__law_draw) .none kV__law_draw dc__law_draw pm__law_draw an__law_draw cd__law_draw ct__law_draw), sl__law_draw⟩)
    (c__law_draw : PySem.W.codeIn K cd__law_draw "_law_draw" = true)
    (k__law_draw_ : PySem.W.keepIn K (.ref f__law_draw) = true)
    (a__law_take : PySem.W.nsIn K mainGlobals "_law_take" = some (some (.ref f__law_take)))
    (l__law_take : K.lookup f__law_take = some ⟨oc__law_take, od__law_take, .func (PySem.W.fnOf "_law_take" "_law_take" (defArgs s__law_take) (defBody s__law_take) (defScope s__law_take) .none kV__law_take dc__law_take pm__law_take an__law_take cd__law_take ct__law_take), sl__law_take⟩)
    (c__law_take : PySem.W.codeIn K cd__law_take "_law_take" = true)
    (k__law_take_ : PySem.W.keepIn K (.ref f__law_take) = true)
    (a__law_loose : PySem.W.nsIn K mainGlobals "_law_loose" = some (some (.ref f__law_loose)))
    (l__law_loose : K.lookup f__law_loose = some ⟨oc__law_loose, od__law_loose, .func (PySem.W.fnOf "_law_loose" "_law_loose" (defArgs s__law_loose) (defBody s__law_loose) (defScope s__law_loose) .none kV__law_loose dc__law_loose pm__law_loose an__law_loose cd__law_loose ct__law_loose), sl__law_loose⟩)
    (c__law_loose : PySem.W.codeIn K cd__law_loose "_law_loose" = true)
    (k__law_loose_ : PySem.W.keepIn K (.ref f__law_loose) = true)
    (a__law_race : PySem.W.nsIn K mainGlobals "_law_race" = some (some (.ref f__law_race)))
    (l__law_race : K.lookup f__law_race = some ⟨oc__law_race, od__law_race, .func (PySem.W.fnOf "_law_race" "_law_race" (defArgs s__law_race) (defBody s__law_race) (defScope s__law_race) .none kV__law_race dc__law_race pm__law_race an__law_race cd__law_race ct__law_race), sl__law_race⟩)
    (c__law_race : PySem.W.codeIn K cd__law_race "_law_race" = true)
    (k__law_race_ : PySem.W.keepIn K (.ref f__law_race) = true)
    (a_Race_init : PySem.W.findIn K (.ref C_Race) "__init__" = some (some (.ref f_Race_init)))
    (if_Race_init : PySem.W.isFn K (.ref f_Race_init) = true)
    (l_Race_init : K.lookup f_Race_init = some ⟨oc_Race_init, od_Race_init, .func (PySem.W.fnOf "__init__" "Race.__init__" (defArgs s_Race_init) (defBody s_Race_init) (defScope s_Race_init) (.ref T_Race_init) kV_Race_init dc_Race_init pm_Race_init an_Race_init cd_Race_init ct_Race_init), sl_Race_init⟩)
    (lT_Race_init : K.lookup T_Race_init = some ⟨oT_Race_init, dT_Race_init, .seq #[.bool true, .ref e1_Race_init, .ref e2_Race_init] nT_Race_init, sT_Race_init⟩)
    (c_Race_init : PySem.W.codeIn K cd_Race_init "Race.__init__" = true)
    (k_Race_init_ : PySem.W.keepIn K (.ref f_Race_init) = true)
    (a__law_made : PySem.W.nsIn K mainGlobals "_law_made" = some (some (.ref f__law_made)))
    (l__law_made : K.lookup f__law_made = some ⟨oc__law_made, od__law_made, .func (PySem.W.fnOf "_law_made" "_law_made" (defArgs s__law_made) (defBody s__law_made) (defScope s__law_made) .none kV__law_made dc__law_made pm__law_made an__law_made cd__law_made ct__law_made), sl__law_made⟩)
    (c__law_made : PySem.W.codeIn K cd__law_made "_law_made" = true)
    (k__law_made_ : PySem.W.keepIn K (.ref f__law_made) = true)
    (a__law_subsets : PySem.W.nsIn K mainGlobals "_law_subsets" = some (some (.ref f__law_subsets)))
    (l__law_subsets : K.lookup f__law_subsets = some ⟨oc__law_subsets, od__law_subsets, .func (PySem.W.fnOf "_law_subsets" "_law_subsets" (defArgs s__law_subsets) (defBody s__law_subsets) (defScope s__law_subsets) .none kV__law_subsets dc__law_subsets pm__law_subsets an__law_subsets cd__law_subsets ct__law_subsets), sl__law_subsets⟩)
    (c__law_subsets : PySem.W.codeIn K cd__law_subsets "_law_subsets" = true)
    (k__law_subsets_ : PySem.W.keepIn K (.ref f__law_subsets) = true)
    (a__law_orders : PySem.W.nsIn K mainGlobals "_law_orders" = some (some (.ref f__law_orders)))
    (l__law_orders : K.lookup f__law_orders = some ⟨oc__law_orders, od__law_orders, .func (PySem.W.fnOf "_law_orders" "_law_orders" (defArgs s__law_orders) (defBody s__law_orders) (defScope s__law_orders) .none kV__law_orders dc__law_orders pm__law_orders an__law_orders cd__law_orders ct__law_orders), sl__law_orders⟩)
    (c__law_orders : PySem.W.codeIn K cd__law_orders "_law_orders" = true)
    (k__law_orders_ : PySem.W.keepIn K (.ref f__law_orders) = true)
    (a__law_outcomes : PySem.W.nsIn K mainGlobals "_law_outcomes" = some (some (.ref f__law_outcomes)))
    (l__law_outcomes : K.lookup f__law_outcomes = some ⟨oc__law_outcomes, od__law_outcomes, .func (PySem.W.fnOf "_law_outcomes" "_law_outcomes" (defArgs s__law_outcomes) (defBody s__law_outcomes) (defScope s__law_outcomes) .none kV__law_outcomes dc__law_outcomes pm__law_outcomes an__law_outcomes cd__law_outcomes ct__law_outcomes), sl__law_outcomes⟩)
    (c__law_outcomes : PySem.W.codeIn K cd__law_outcomes "_law_outcomes" = true)
    (k__law_outcomes_ : PySem.W.keepIn K (.ref f__law_outcomes) = true)
    (a__law_plain_in : PySem.W.nsIn K mainGlobals "_law_plain_in" = some (some (.ref f__law_plain_in)))
    (l__law_plain_in : K.lookup f__law_plain_in = some ⟨oc__law_plain_in, od__law_plain_in, .func (PySem.W.fnOf "_law_plain_in" "_law_plain_in" (defArgs s__law_plain_in) (defBody s__law_plain_in) (defScope s__law_plain_in) .none kV__law_plain_in dc__law_plain_in pm__law_plain_in an__law_plain_in cd__law_plain_in ct__law_plain_in), sl__law_plain_in⟩)
    (c__law_plain_in : PySem.W.codeIn K cd__law_plain_in "_law_plain_in" = true)
    (k__law_plain_in_ : PySem.W.keepIn K (.ref f__law_plain_in) = true)
    (a_law : PySem.W.nsIn K mainGlobals "law" = some (some (.ref f_law)))
    (l_law : K.lookup f_law = some ⟨oc_law, od_law, .func (PySem.W.fnOf "law" "law" (defArgs s_law) (defBody s_law) (defScope s_law) .none kV_law dc_law pm_law an_law cd_law ct_law), sl_law⟩)
    (c_law : PySem.W.codeIn K cd_law "law" = true)
    (k_law_ : PySem.W.keepIn K (.ref f_law) = true)
    (a_Race_cuts : PySem.W.findIn K (.ref C_Race) "cuts" = some (some (.ref p_Race_cuts)))
    (pr_Race_cuts : PySem.W.recIn K p_Race_cuts "property" = some (.ref f_Race_cuts :: re_Race_cuts))
    (pt_Race_cuts : PySem.W.specialIn K (.ref p_Race_cuts) "__get__" = some (some (.builtin "property.__get__")))
    (pk_Race_cuts : PySem.W.takesIn K (.ref p_Race_cuts) = some true)
    (l_Race_cuts : K.lookup f_Race_cuts = some ⟨oc_Race_cuts, od_Race_cuts, .func (PySem.W.fnOf "cuts" "Race.cuts" (defArgs s_Race_cuts) (defBody s_Race_cuts) (defScope s_Race_cuts) .none kV_Race_cuts dc_Race_cuts pm_Race_cuts an_Race_cuts cd_Race_cuts ct_Race_cuts), sl_Race_cuts⟩)
    (c_Race_cuts : PySem.W.codeIn K cd_Race_cuts "Race.cuts" = true)
    (k_Race_cuts_ : PySem.W.keepIn K (.ref f_Race_cuts) = true)
    : ∃ fd : FuncData, (∀ (s : Shared) (u : Value), BindsTo s fd ⟨[u], []⟩ [("script", u)]) ∧ ∀ base : Heap, K.In base → base.Ns mainGlobals mg → FnOk P w K mg base (L2.CX P w) 9 fa fd ["script"] (spL K) := by
  have e := hfa.symm.trans (PySem.W.mg_of X G a_law)
  cases e
  have TT : TX K mg (fun n => C_Race) (fun n => D_BadValue) (fun n => "at") := {
    b_all := PySem.W.mg_none_of X G z_all,
    b_bool := PySem.W.mg_none_of X G z_bool,
    b_int := PySem.W.mg_none_of X G z_int,
    b_isinstance := PySem.W.mg_none_of X G z_isinstance,
    b_len := PySem.W.mg_none_of X G z_len,
    b_list := PySem.W.mg_none_of X G z_list,
    b_range := PySem.W.mg_none_of X G z_range,
    b_set := PySem.W.mg_none_of X G z_set,
    b_sorted := PySem.W.mg_none_of X G z_sorted,
    b_str := PySem.W.mg_none_of X G z_str,
    b_tuple := PySem.W.mg_none_of X G z_tuple,
    na_Race__absent := n_Race__absent,
    na_Race__cuts := n_Race__cuts,
    na_Race__runners := n_Race__runners,
    na_Race__ties := n_Race__ties,
    k_MOST_CUT := ⟨_, PySem.W.mg_of X G k_MOST_CUT⟩,
    k_MOST_RUNNERS := ⟨_, PySem.W.mg_of X G k_MOST_RUNNERS⟩,
    c_Race := ⟨⟨pg_Race, hd_Race, po_Race, sa_Race⟩, ha_Race, hn, ht, mo_Race⟩,
    m_Race := PySem.W.mg_of X G a_Race,
    e_BadValue := mk_err_at x_BadValue (by rfl) sa_BadValue ga_BadValue gg_BadValue nf_BadValue kc_BadValue ex_BadValue ty_BadValue hd_BadValue fi_BadValue ti_BadValue l_BadValue c_BadValue,
    ef_BadValue := rfl,
    em_BadValue := PySem.W.mg_of X G a_BadValue,
    ai_int := fun c b hq => ⟨⟨pg_Race, hd_Race, po_Race, sa_Race⟩, ha_Race, hn, ht, mo_Race⟩,
    an_int := fun t b hq => match t, b, hq with
      | .non, b, hq => (by cases hq; rfl)
      | .bl, b, hq => (by cases hq; rfl)
      | .int, b, hq => (by cases hq; rfl)
      | .str, b, hq => (by cases hq; rfl)
      | .tup, b, hq => (by cases hq; rfl)
      | .lst, b, hq => (by cases hq; rfl)
      | .cls c, b, hq => (by unfold ans_int at hq; dsimp only at hq; split at hq; (rename_i hc; subst hc; cases hq; exact kit_1 su_Race_int (by rfl)); (cases hq)),
    ai_bool := fun c b hq => ⟨⟨pg_Race, hd_Race, po_Race, sa_Race⟩, ha_Race, hn, ht, mo_Race⟩,
    an_bool := fun t b hq => match t, b, hq with
      | .non, b, hq => (by cases hq; rfl)
      | .bl, b, hq => (by cases hq; rfl)
      | .int, b, hq => (by cases hq; rfl)
      | .str, b, hq => (by cases hq; rfl)
      | .tup, b, hq => (by cases hq; rfl)
      | .lst, b, hq => (by cases hq; rfl)
      | .cls c, b, hq => (by unfold ans_bool at hq; dsimp only at hq; split at hq; (rename_i hc; subst hc; cases hq; exact kit_1 su_Race_bool (by rfl)); (cases hq)),
    ai_list_tuple := fun c b hq => ⟨⟨pg_Race, hd_Race, po_Race, sa_Race⟩, ha_Race, hn, ht, mo_Race⟩,
    an_list_tuple := fun t b hq => match t, b, hq with
      | .non, b, hq => (by cases hq; rfl)
      | .bl, b, hq => (by cases hq; rfl)
      | .int, b, hq => (by cases hq; rfl)
      | .str, b, hq => (by cases hq; rfl)
      | .tup, b, hq => (by cases hq; rfl)
      | .lst, b, hq => (by cases hq; rfl)
      | .cls c, b, hq => (by unfold ans_list_tuple at hq; dsimp only at hq; split at hq; (rename_i hc; subst hc; cases hq; exact kit_more (kit_1 su_Race_list (by rfl)) (kit_1 su_Race_tuple (by rfl))); (cases hq)),
    ai_Race := fun c b hq => ⟨⟨pg_Race, hd_Race, po_Race, sa_Race⟩, ha_Race, hn, ht, mo_Race⟩,
    an_Race := fun t b hq => match t, b, hq with
      | .non, b, hq => (by cases hq; exact kit_own ic_Race ty_Race (by rfl))
      | .bl, b, hq => (by cases hq; exact kit_own ic_Race ty_Race (by rfl))
      | .int, b, hq => (by cases hq; exact kit_own ic_Race ty_Race (by rfl))
      | .str, b, hq => (by cases hq; exact kit_own ic_Race ty_Race (by rfl))
      | .tup, b, hq => (by cases hq; exact kit_own ic_Race ty_Race (by rfl))
      | .lst, b, hq => (by cases hq; exact kit_own ic_Race ty_Race (by rfl))
      | .cls c, b, hq => (by unfold ans_Race at hq; dsimp only at hq; split at hq; (rename_i hc; subst hc; cases hq; exact kit_self); (cases hq)),
    ai_tuple := fun c b hq => ⟨⟨pg_Race, hd_Race, po_Race, sa_Race⟩, ha_Race, hn, ht, mo_Race⟩,
    an_tuple := fun t b hq => match t, b, hq with
      | .non, b, hq => (by cases hq; rfl)
      | .bl, b, hq => (by cases hq; rfl)
      | .int, b, hq => (by cases hq; rfl)
      | .str, b, hq => (by cases hq; rfl)
      | .tup, b, hq => (by cases hq; rfl)
      | .lst, b, hq => (by cases hq; rfl)
      | .cls c, b, hq => (by unfold ans_tuple at hq; dsimp only at hq; split at hq; (rename_i hc; subst hc; cases hq; exact kit_1 su_Race_tuple (by rfl)); (cases hq)),
    ai_str := fun c b hq => ⟨⟨pg_Race, hd_Race, po_Race, sa_Race⟩, ha_Race, hn, ht, mo_Race⟩,
    an_str := fun t b hq => match t, b, hq with
      | .non, b, hq => (by cases hq; rfl)
      | .bl, b, hq => (by cases hq; rfl)
      | .int, b, hq => (by cases hq; rfl)
      | .str, b, hq => (by cases hq; rfl)
      | .tup, b, hq => (by cases hq; rfl)
      | .lst, b, hq => (by cases hq; rfl)
      | .cls c, b, hq => (by unfold ans_str at hq; dsimp only at hq; split at hq; (rename_i hc; subst hc; cases hq; exact kit_1 su_Race_str (by rfl)); (cases hq)) }
  have FF_is_integer := fun_mk (st := s_is_integer) l_is_integer c_is_integer k_is_integer_
  have B_is_integer := FF_is_integer.binds (ps := ["value"]) fun _ _ _ _ _ _ us hl => match us, hl with | [_], _ => rfl
  have FF_is_integer_within := fun_mk (st := s_is_integer_within) l_is_integer_within c_is_integer_within k_is_integer_within_
  have B_is_integer_within := FF_is_integer_within.binds (ps := ["value", "least", "most"]) fun _ _ _ _ _ _ us hl => match us, hl with | [_, _, _], _ => rfl
  have FF_is_sequence := fun_mk (st := s_is_sequence) l_is_sequence c_is_sequence k_is_sequence_
  have B_is_sequence := FF_is_sequence.binds (ps := ["value"]) fun _ _ _ _ _ _ us hl => match us, hl with | [_], _ => rfl
  have FF_need_race := fun_mk (st := s_need_race) l_need_race c_need_race k_need_race_
  have B_need_race := FF_need_race.binds (ps := ["race", "at"]) fun _ _ _ _ _ _ us hl => match us, hl with | [_, _], _ => rfl
  have FF__subsets := fun_mk (st := s__subsets) l__subsets c__subsets k__subsets_
  have B__subsets := FF__subsets.binds (ps := ["runners"]) fun _ _ _ _ _ _ us hl => match us, hl with | [_], _ => rfl
  have FF_Race_absent := fun_mk (st := s_Race_absent) l_Race_absent c_Race_absent k_Race_absent_
  have B_Race_absent := FF_Race_absent.binds (ps := ["self"]) fun _ _ _ _ _ _ us hl => match us, hl with | [_], _ => rfl
  have FF_Race_runners := fun_mk (st := s_Race_runners) l_Race_runners c_Race_runners k_Race_runners_
  have B_Race_runners := FF_Race_runners.binds (ps := ["self"]) fun _ _ _ _ _ _ us hl => match us, hl with | [_], _ => rfl
  have FF__may_come_level := fun_mk (st := s__may_come_level) l__may_come_level c__may_come_level k__may_come_level_
  have B__may_come_level := FF__may_come_level.binds (ps := ["many", "ties"]) fun _ _ _ _ _ _ us hl => match us, hl with | [_, _], _ => rfl
  have FF__without := fun_mk (st := s__without) l__without c__without k__without_
  have B__without := FF__without.binds (ps := ["runners", "chosen"]) fun _ _ _ _ _ _ us hl => match us, hl with | [_, _], _ => rfl
  have FF__orders := fun_mk (st := s__orders) l__orders c__orders k__orders_
  have B__orders := FF__orders.binds (ps := ["runners", "ties"]) fun _ _ _ _ _ _ us hl => match us, hl with | [_, _], _ => rfl
  have FF_Race_ties := fun_mk (st := s_Race_ties) l_Race_ties c_Race_ties k_Race_ties_
  have B_Race_ties := FF_Race_ties.binds (ps := ["self"]) fun _ _ _ _ _ _ us hl => match us, hl with | [_], _ => rfl
  have FF_outcomes := fun_mk (st := s_outcomes) l_outcomes c_outcomes k_outcomes_
  have B_outcomes := FF_outcomes.binds (ps := ["race"]) fun _ _ _ _ _ _ us hl => match us, hl with | [_], _ => rfl
  have FF_running_in := fun_mk (st := s_running_in) l_running_in c_running_in k_running_in_
  have B_running_in := FF_running_in.binds (ps := ["outcome"]) fun _ _ _ _ _ _ us hl => match us, hl with | [_], _ => rfl
  have FF__are_runners := fun_mk (st := s__are_runners) l__are_runners c__are_runners k__are_runners_
  have B__are_runners := FF__are_runners.binds (ps := ["value", "runners"]) fun _ _ _ _ _ _ us hl => match us, hl with | [_, _], _ => rfl
  have FF__is_ascending := fun_mk (st := s__is_ascending) l__is_ascending c__is_ascending k__is_ascending_
  have B__is_ascending := FF__is_ascending.binds (ps := ["value", "runners"]) fun _ _ _ _ _ _ us hl => match us, hl with | [_, _], _ => rfl
  have FF__is_group := fun_mk (st := s__is_group) l__is_group c__is_group k__is_group_
  have B__is_group := FF__is_group.binds (ps := ["race", "group"]) fun _ _ _ _ _ _ us hl => match us, hl with | [_, _], _ => rfl
  have FF_is_outcome := fun_mk (st := s_is_outcome) l_is_outcome c_is_outcome k_is_outcome_
  have B_is_outcome := FF_is_outcome.binds (ps := ["race", "value"]) fun _ _ _ _ _ _ us hl => match us, hl with | [_, _], _ => rfl
  have FF__are_cuts := fun_mk (st := s__are_cuts) l__are_cuts c__are_cuts k__are_cuts_
  have B__are_cuts := FF__are_cuts.binds (ps := ["value", "runners"]) fun _ _ _ _ _ _ us hl => match us, hl with | [_, _], _ => rfl
  have FF__law_so := fun_mk (st := s__law_so) l__law_so c__law_so k__law_so_
  have B__law_so := FF__law_so.binds (ps := ["found", "meant"]) fun _ _ _ _ _ _ us hl => match us, hl with | [_, _], _ => rfl
  have FF__law_numbers := fun_mk (st := s__law_numbers) l__law_numbers c__law_numbers k__law_numbers_
  have B__law_numbers := FF__law_numbers.binds (ps := ["script"]) fun _ _ _ _ _ _ us hl => match us, hl with | [_], _ => rfl
  have FF__law_draw := fun_mk (st := s__law_draw) l__law_draw c__law_draw k__law_draw_
  have B__law_draw := FF__law_draw.binds (ps := ["row", "at", "limit"]) fun _ _ _ _ _ _ us hl => match us, hl with | [_, _, _], _ => rfl
  have FF__law_take := fun_mk (st := s__law_take) l__law_take c__law_take k__law_take_
  have B__law_take := FF__law_take.binds (ps := ["row", "spot", "limit"]) fun _ _ _ _ _ _ us hl => match us, hl with | [_, _, _], _ => rfl
  have FF__law_loose := fun_mk (st := s__law_loose) l__law_loose c__law_loose k__law_loose_
  have B__law_loose := FF__law_loose.binds (ps := ["value", "turn"]) fun _ _ _ _ _ _ us hl => match us, hl with | [_, _], _ => rfl
  have FF__law_race := fun_mk (st := s__law_race) l__law_race c__law_race k__law_race_
  have B__law_race := FF__law_race.binds (ps := ["row", "spot", "most"]) fun _ _ _ _ _ _ us hl => match us, hl with | [_, _, _], _ => rfl
  have FF_Race_init : L2.FunD K "__init__" "Race.__init__" (defArgs s_Race_init) (defBody s_Race_init) (defScope s_Race_init) [.bl true, .ref e1_Race_init, .ref e2_Race_init] [] f_Race_init _ := ⟨⟨_, _, _, _, _, _, _, _, _, _, rfl, l_Race_init, c_Race_init, .inr ⟨by simp, T_Race_init, _, _, _, rfl, lT_Race_init, rfl, (.cons rfl (.cons rfl (.cons rfl .nil)))⟩, .inl rfl⟩, k_Race_init_⟩
  obtain ⟨ds_Race_init, dv_Race_init, B_Race_init⟩ := L2.FunD.binds1 (ps := ["self", "runners", "ties", "absent", "cuts"]) FF_Race_init 5 3 (by simp) rfl fun _ _ _ _ _ _ _ us its hl hl2 => match us, hl, its, hl2 with | [_, _, _, _, _], _, [_, _, _], _ => ⟨_, rfl, rfl⟩
  have FF__law_made := fun_mk (st := s__law_made) l__law_made c__law_made k__law_made_
  have B__law_made := FF__law_made.binds (ps := ["race"]) fun _ _ _ _ _ _ us hl => match us, hl with | [_], _ => rfl
  have FF__law_subsets := fun_mk (st := s__law_subsets) l__law_subsets c__law_subsets k__law_subsets_
  have B__law_subsets := FF__law_subsets.binds (ps := ["ones"]) fun _ _ _ _ _ _ us hl => match us, hl with | [_], _ => rfl
  have FF__law_orders := fun_mk (st := s__law_orders) l__law_orders c__law_orders k__law_orders_
  have B__law_orders := FF__law_orders.binds (ps := ["ones", "ties"]) fun _ _ _ _ _ _ us hl => match us, hl with | [_, _], _ => rfl
  have FF__law_outcomes := fun_mk (st := s__law_outcomes) l__law_outcomes c__law_outcomes k__law_outcomes_
  have B__law_outcomes := FF__law_outcomes.binds (ps := ["race"]) fun _ _ _ _ _ _ us hl => match us, hl with | [_], _ => rfl
  have FF__law_plain_in := fun_mk (st := s__law_plain_in) l__law_plain_in c__law_plain_in k__law_plain_in_
  have B__law_plain_in := FF__law_plain_in.binds (ps := ["value", "due"]) fun _ _ _ _ _ _ us hl => match us, hl with | [_, _], _ => rfl
  have FF_law := fun_mk (st := s_law) l_law c_law k_law_
  have B_law := FF_law.binds (ps := ["script"]) fun _ _ _ _ _ _ us hl => match us, hl with | [_], _ => rfl
  have FF_Race_cuts := fun_mk (st := s_Race_cuts) l_Race_cuts c_Race_cuts k_Race_cuts_
  have B_Race_cuts := FF_Race_cuts.binds (ps := ["self"]) fun _ _ _ _ _ _ us hl => match us, hl with | [_], _ => rfl
  suffices hh : ∀ base : Heap, K.In base → base.Ns mainGlobals mg → FnOk P w K mg base (L2.CX P w) 9 fa (PySem.W.fnOf "law" "law" (defArgs s_law) (defBody s_law) (defScope s_law) .none kV_law dc_law pm_law an_law cd_law ct_law) ["script"] (spL K) from ⟨_, fun s u => .of_eq rfl, hh⟩
  intro base _ _
  have G_is_integer : Fn ⟨K, fun n => C_Race, fun n => D_BadValue, fun n => "at"⟩ P w mg base 1 "is_integer" 1 [] F_is_integer := fn_mk1 (ok_is_integer FF_is_integer TT) (PySem.W.mg_of X G a_is_integer) k_is_integer_ B_is_integer
  have G_is_integer_within : Fn ⟨K, fun n => C_Race, fun n => D_BadValue, fun n => "at"⟩ P w mg base 2 "is_integer_within" 3 [] F_is_integer_within := fn_mk1 (ok_is_integer_within FF_is_integer_within TT G_is_integer) (PySem.W.mg_of X G a_is_integer_within) k_is_integer_within_ B_is_integer_within
  have G_is_sequence : Fn ⟨K, fun n => C_Race, fun n => D_BadValue, fun n => "at"⟩ P w mg base 1 "is_sequence" 1 [] F_is_sequence := fn_mk1 (ok_is_sequence FF_is_sequence TT) (PySem.W.mg_of X G a_is_sequence) k_is_sequence_ B_is_sequence
  have G_need_race : Fn ⟨K, fun n => C_Race, fun n => D_BadValue, fun n => "at"⟩ P w mg base 2 "need_race" 2 [] F_need_race := fn_mk1 (ok_need_race FF_need_race TT) (PySem.W.mg_of X G a_need_race) k_need_race_ B_need_race
  have G__subsets : Fn ⟨K, fun n => C_Race, fun n => D_BadValue, fun n => "at"⟩ P w mg base 1 "_subsets" 1 [] F__subsets := fn_mk1 (ok__subsets FF__subsets TT) (PySem.W.mg_of X G a__subsets) k__subsets_ B__subsets
  have G_Race_absent : FnP ⟨K, fun n => C_Race, fun n => D_BadValue, fun n => "at"⟩ P w mg base 1 "absent" 0 F_Race_absent := fnP_mk1 (ok_Race_absent FF_Race_absent TT) ⟨a_Race_absent, pt_Race_absent, pk_Race_absent, _, pr_Race_absent⟩ B_Race_absent
  have G_Race_runners : FnP ⟨K, fun n => C_Race, fun n => D_BadValue, fun n => "at"⟩ P w mg base 1 "runners" 0 F_Race_runners := fnP_mk1 (ok_Race_runners FF_Race_runners TT) ⟨a_Race_runners, pt_Race_runners, pk_Race_runners, _, pr_Race_runners⟩ B_Race_runners
  have G__may_come_level : Fn ⟨K, fun n => C_Race, fun n => D_BadValue, fun n => "at"⟩ P w mg base 1 "_may_come_level" 2 [] F__may_come_level := fn_mk1 (ok__may_come_level FF__may_come_level TT) (PySem.W.mg_of X G a__may_come_level) k__may_come_level_ B__may_come_level
  have G__without : Fn ⟨K, fun n => C_Race, fun n => D_BadValue, fun n => "at"⟩ P w mg base 1 "_without" 2 [] F__without := fn_mk1 (ok__without FF__without TT) (PySem.W.mg_of X G a__without) k__without_ B__without
  have R__orders : ∀ d : Nat, Fn ⟨K, fun n => C_Race, fun n => D_BadValue, fun n => "at"⟩ P w mg base (1 + d) "_orders" 2 [] (F__orders d) := fun d => by
    induction d with
    | zero => exact fn_mk1 (fn_err (ps := ["runners", "ties"]) rfl) (PySem.W.mg_of X G a__orders) k__orders_ B__orders
    | succ d ih => exact fn_mk1 (ok__orders FF__orders TT G__subsets G__may_come_level G__without ih) (PySem.W.mg_of X G a__orders) k__orders_ B__orders
  have G__orders : Fn ⟨K, fun n => C_Race, fun n => D_BadValue, fun n => "at"⟩ P w mg base 7 "_orders" 2 [] (F__orders 6) := R__orders 6
  have G_Race_ties : FnP ⟨K, fun n => C_Race, fun n => D_BadValue, fun n => "at"⟩ P w mg base 1 "ties" 0 F_Race_ties := fnP_mk1 (ok_Race_ties FF_Race_ties TT) ⟨a_Race_ties, pt_Race_ties, pk_Race_ties, _, pr_Race_ties⟩ B_Race_ties
  have G_outcomes : Fn ⟨K, fun n => C_Race, fun n => D_BadValue, fun n => "at"⟩ P w mg base 8 "outcomes" 1 [] F_outcomes := fn_mk1 (ok_outcomes FF_outcomes TT G_need_race G__subsets G_Race_absent G_Race_runners G__orders G_Race_ties) (PySem.W.mg_of X G a_outcomes) k_outcomes_ B_outcomes
  have K_outcomes : FnK ⟨K, fun n => C_Race, fun n => D_BadValue, fun n => "at"⟩ P w mg base 8 "outcomes" ["race"] F_outcomes := ⟨_, _, (ok_outcomes FF_outcomes TT G_need_race G__subsets G_Race_absent G_Race_runners G__orders G_Race_ties), PySem.W.mg_of X G a_outcomes, k_outcomes_, fun s us _ hl => match us, hl with | [_], _ => .of_eq rfl⟩
  have G_running_in : Fn ⟨K, fun n => C_Race, fun n => D_BadValue, fun n => "at"⟩ P w mg base 1 "running_in" 1 [] F_running_in := fn_mk1 (ok_running_in FF_running_in TT) (PySem.W.mg_of X G a_running_in) k_running_in_ B_running_in
  have G__are_runners : Fn ⟨K, fun n => C_Race, fun n => D_BadValue, fun n => "at"⟩ P w mg base 3 "_are_runners" 2 [] F__are_runners := fn_mk1 (ok__are_runners FF__are_runners TT G_is_sequence G_is_integer_within) (PySem.W.mg_of X G a__are_runners) k__are_runners_ B__are_runners
  have G__is_ascending : Fn ⟨K, fun n => C_Race, fun n => D_BadValue, fun n => "at"⟩ P w mg base 4 "_is_ascending" 2 [] F__is_ascending := fn_mk1 (ok__is_ascending FF__is_ascending TT G__are_runners) (PySem.W.mg_of X G a__is_ascending) k__is_ascending_ B__is_ascending
  have G__is_group : Fn ⟨K, fun n => C_Race, fun n => D_BadValue, fun n => "at"⟩ P w mg base 5 "_is_group" 2 [] F__is_group := fn_mk1 (ok__is_group FF__is_group TT G__is_ascending G__may_come_level G_Race_runners G_Race_ties) (PySem.W.mg_of X G a__is_group) k__is_group_ B__is_group
  have G_is_outcome : Fn ⟨K, fun n => C_Race, fun n => D_BadValue, fun n => "at"⟩ P w mg base 6 "is_outcome" 2 [] F_is_outcome := fn_mk1 (ok_is_outcome FF_is_outcome TT G_need_race G_running_in G_is_sequence G__is_group G_Race_absent G_Race_runners) (PySem.W.mg_of X G a_is_outcome) k_is_outcome_ B_is_outcome
  have G__are_cuts : Fn ⟨K, fun n => C_Race, fun n => D_BadValue, fun n => "at"⟩ P w mg base 3 "_are_cuts" 2 [] F__are_cuts := fn_mk1 (ok__are_cuts FF__are_cuts TT G_is_sequence G_is_integer_within) (PySem.W.mg_of X G a__are_cuts) k__are_cuts_ B__are_cuts
  have R__law_so : ∀ d : Nat, Fn ⟨K, fun n => C_Race, fun n => D_BadValue, fun n => "at"⟩ P w mg base (0 + d) "_law_so" 2 [] (F__law_so d) := fun d => by
    induction d with
    | zero => exact fn_mk1 (fn_err (ps := ["found", "meant"]) rfl) (PySem.W.mg_of X G a__law_so) k__law_so_ B__law_so
    | succ d ih => exact fn_mk1 (ok__law_so FF__law_so TT ih) (PySem.W.mg_of X G a__law_so) k__law_so_ B__law_so
  have G__law_so : Fn ⟨K, fun n => C_Race, fun n => D_BadValue, fun n => "at"⟩ P w mg base 6 "_law_so" 2 [] (F__law_so 6) := R__law_so 6
  have G__law_numbers : Fn ⟨K, fun n => C_Race, fun n => D_BadValue, fun n => "at"⟩ P w mg base 1 "_law_numbers" 1 [] F__law_numbers := fn_mk1 (ok__law_numbers FF__law_numbers TT) (PySem.W.mg_of X G a__law_numbers) k__law_numbers_ B__law_numbers
  have G__law_draw : Fn ⟨K, fun n => C_Race, fun n => D_BadValue, fun n => "at"⟩ P w mg base 1 "_law_draw" 3 [] F__law_draw := fn_mk1 (ok__law_draw FF__law_draw TT) (PySem.W.mg_of X G a__law_draw) k__law_draw_ B__law_draw
  have G__law_take : Fn ⟨K, fun n => C_Race, fun n => D_BadValue, fun n => "at"⟩ P w mg base 2 "_law_take" 3 [] F__law_take := fn_mk1 (ok__law_take FF__law_take TT G__law_draw) (PySem.W.mg_of X G a__law_take) k__law_take_ B__law_take
  have R__law_loose : ∀ d : Nat, Fn ⟨K, fun n => C_Race, fun n => D_BadValue, fun n => "at"⟩ P w mg base (0 + d) "_law_loose" 2 [] (F__law_loose d) := fun d => by
    induction d with
    | zero => exact fn_mk1 (fn_err (ps := ["value", "turn"]) rfl) (PySem.W.mg_of X G a__law_loose) k__law_loose_ B__law_loose
    | succ d ih => exact fn_mk1 (ok__law_loose FF__law_loose TT ih) (PySem.W.mg_of X G a__law_loose) k__law_loose_ B__law_loose
  have G__law_loose : Fn ⟨K, fun n => C_Race, fun n => D_BadValue, fun n => "at"⟩ P w mg base 6 "_law_loose" 2 [] (F__law_loose 6) := R__law_loose 6
  have G__law_race : Fn ⟨K, fun n => C_Race, fun n => D_BadValue, fun n => "at"⟩ P w mg base 3 "_law_race" 3 [] F__law_race := fn_mk1 (ok__law_race FF__law_race TT G__law_take) (PySem.W.mg_of X G a__law_race) k__law_race_ B__law_race
  have G_Race_init : FnI ⟨K, fun n => C_Race, fun n => D_BadValue, fun n => "at"⟩ P w mg base 5 "Race" 0 5 [] F_Race_init := fnI_mk1 (ok_Race_init FF_Race_init TT G_is_integer_within G__is_ascending G__are_cuts) ⟨mk_Race, a_Race_init, if_Race_init, kc_Race⟩ (PySem.W.mg_of X G a_Race) B_Race_init dv_Race_init
  have G__law_made : Fn ⟨K, fun n => C_Race, fun n => D_BadValue, fun n => "at"⟩ P w mg base 7 "_law_made" 1 [] F__law_made := fn_mk1 (ok__law_made FF__law_made TT G_Race_init) (PySem.W.mg_of X G a__law_made) k__law_made_ B__law_made
  have G__law_subsets : Fn ⟨K, fun n => C_Race, fun n => D_BadValue, fun n => "at"⟩ P w mg base 1 "_law_subsets" 1 [] F__law_subsets := fn_mk1 (ok__law_subsets FF__law_subsets TT) (PySem.W.mg_of X G a__law_subsets) k__law_subsets_ B__law_subsets
  have R__law_orders : ∀ d : Nat, Fn ⟨K, fun n => C_Race, fun n => D_BadValue, fun n => "at"⟩ P w mg base (1 + d) "_law_orders" 2 [] (F__law_orders d) := fun d => by
    induction d with
    | zero => exact fn_mk1 (fn_err (ps := ["ones", "ties"]) rfl) (PySem.W.mg_of X G a__law_orders) k__law_orders_ B__law_orders
    | succ d ih => exact fn_mk1 (ok__law_orders FF__law_orders TT G__law_subsets ih) (PySem.W.mg_of X G a__law_orders) k__law_orders_ B__law_orders
  have G__law_orders : Fn ⟨K, fun n => C_Race, fun n => D_BadValue, fun n => "at"⟩ P w mg base 7 "_law_orders" 2 [] (F__law_orders 6) := R__law_orders 6
  have G__law_outcomes : Fn ⟨K, fun n => C_Race, fun n => D_BadValue, fun n => "at"⟩ P w mg base 8 "_law_outcomes" 1 [] F__law_outcomes := fn_mk1 (ok__law_outcomes FF__law_outcomes TT G__law_subsets G__law_orders) (PySem.W.mg_of X G a__law_outcomes) k__law_outcomes_ B__law_outcomes
  have G__law_plain_in : Fn ⟨K, fun n => C_Race, fun n => D_BadValue, fun n => "at"⟩ P w mg base 7 "_law_plain_in" 2 [] F__law_plain_in := fn_mk1 (ok__law_plain_in FF__law_plain_in TT G__law_so) (PySem.W.mg_of X G a__law_plain_in) k__law_plain_in_ B__law_plain_in
  have G_Race_cuts : FnP ⟨K, fun n => C_Race, fun n => D_BadValue, fun n => "at"⟩ P w mg base 1 "cuts" 0 F_Race_cuts := fnP_mk1 (ok_Race_cuts FF_Race_cuts TT) ⟨a_Race_cuts, pt_Race_cuts, pk_Race_cuts, _, pr_Race_cuts⟩ B_Race_cuts
  exact law_ok pure_law (ok_law FF_law TT G__law_numbers G__law_race G__law_made G__law_outcomes G__law_so G__law_take G_is_outcome G__law_plain_in G_outcomes G__law_loose K_outcomes)
end LW
open PySem PySem.W PyProof.Rows in
set_option maxRecDepth 100000 in
set_option maxHeartbeats 0 in
theorem PySem.Challenge.cw_racebooks_k10_outcomes_of_races_holds : PySem.Challenge.rw_racebooks_k10_outcomes_of_races.Holds := by
  w_on; o_law; k_head; (case hw => w_witness2)
  k_fill
  refine RB.walk (l := PySem.Challenge.rw_racebooks_k10_outcomes_of_races) (k := 9) rfl rfl ⟨rfl, by decide, by decide⟩ (fun w h Y => PySem.W.kIn_of Y) ?F
  case F =>
    intro w mg fa h KX G hmg
    refine' LW.all_mk KX G hmg ?a_Race ?pg_Race ?hd_Race ?po_Race ?sa_Race ?ha_Race ?mo_Race ?mk_Race ?kc_Race ?hn ?ht ?z_all ?z_bool ?z_int ?z_isinstance ?z_len ?z_list ?z_range ?z_set ?z_sorted ?z_str ?z_tuple ?n_Race__absent ?n_Race__cuts ?n_Race__runners ?n_Race__ties ?k_MOST_CUT ?k_MOST_RUNNERS ?a_BadValue ?x_BadValue ?sa_BadValue ?ga_BadValue ?gg_BadValue ?nf_BadValue ?kc_BadValue ?ex_BadValue ?ty_BadValue ?hd_BadValue ?fi_BadValue ?ti_BadValue ?l_BadValue ?c_BadValue ?ic_Race ?ty_Race ?su_Race_int ?su_Race_bool ?su_Race_list ?su_Race_tuple ?su_Race_str ?a_is_integer ?l_is_integer ?c_is_integer ?k_is_integer_ ?a_is_integer_within ?l_is_integer_within ?c_is_integer_within ?k_is_integer_within_ ?a_is_sequence ?l_is_sequence ?c_is_sequence ?k_is_sequence_ ?a_need_race ?l_need_race ?c_need_race ?k_need_race_ ?a__subsets ?l__subsets ?c__subsets ?k__subsets_ ?a_Race_absent ?pr_Race_absent ?pt_Race_absent ?pk_Race_absent ?l_Race_absent ?c_Race_absent ?k_Race_absent_ ?a_Race_runners ?pr_Race_runners ?pt_Race_runners ?pk_Race_runners ?l_Race_runners ?c_Race_runners ?k_Race_runners_ ?a__may_come_level ?l__may_come_level ?c__may_come_level ?k__may_come_level_ ?a__without ?l__without ?c__without ?k__without_ ?a__orders ?l__orders ?c__orders ?k__orders_ ?a_Race_ties ?pr_Race_ties ?pt_Race_ties ?pk_Race_ties ?l_Race_ties ?c_Race_ties ?k_Race_ties_ ?a_outcomes ?l_outcomes ?c_outcomes ?k_outcomes_ ?a_running_in ?l_running_in ?c_running_in ?k_running_in_ ?a__are_runners ?l__are_runners ?c__are_runners ?k__are_runners_ ?a__is_ascending ?l__is_ascending ?c__is_ascending ?k__is_ascending_ ?a__is_group ?l__is_group ?c__is_group ?k__is_group_ ?a_is_outcome ?l_is_outcome ?c_is_outcome ?k_is_outcome_ ?a__are_cuts ?l__are_cuts ?c__are_cuts ?k__are_cuts_ ?a__law_so ?l__law_so ?c__law_so ?k__law_so_ ?a__law_numbers ?l__law_numbers ?c__law_numbers ?k__law_numbers_ ?a__law_draw ?l__law_draw ?c__law_draw ?k__law_draw_ ?a__law_take ?l__law_take ?c__law_take ?k__law_take_ ?a__law_loose ?l__law_loose ?c__law_loose ?k__law_loose_ ?a__law_race ?l__law_race ?c__law_race ?k__law_race_ ?a_Race_init ?if_Race_init ?l_Race_init ?lT_Race_init ?c_Race_init ?k_Race_init_ ?a__law_made ?l__law_made ?c__law_made ?k__law_made_ ?a__law_subsets ?l__law_subsets ?c__law_subsets ?k__law_subsets_ ?a__law_orders ?l__law_orders ?c__law_orders ?k__law_orders_ ?a__law_outcomes ?l__law_outcomes ?c__law_outcomes ?k__law_outcomes_ ?a__law_plain_in ?l__law_plain_in ?c__law_plain_in ?k__law_plain_in_ ?a_law ?l_law ?c_law ?k_law_ ?a_Race_cuts ?pr_Race_cuts ?pt_Race_cuts ?pk_Race_cuts ?l_Race_cuts ?c_Race_cuts ?k_Race_cuts_
    (case a_Race => k_is)
    (case pg_Race => k_is)
    (case hd_Race => k_is)
    (case po_Race => k_is)
    (case sa_Race => k_is)
    (case ha_Race => k_is)
    (case mo_Race => k_is)
    (case mk_Race => k_is)
    (case kc_Race => k_is)
    (case hn => k_is)
    (case ht => k_is)
    (case z_all => k_is)
    (case z_bool => k_is)
    (case z_int => k_is)
    (case z_isinstance => k_is)
    (case z_len => k_is)
    (case z_list => k_is)
    (case z_range => k_is)
    (case z_set => k_is)
    (case z_sorted => k_is)
    (case z_str => k_is)
    (case z_tuple => k_is)
    (case n_Race__absent => k_is)
    (case n_Race__cuts => k_is)
    (case n_Race__runners => k_is)
    (case n_Race__ties => k_is)
    (case k_MOST_CUT => k_is)
    (case k_MOST_RUNNERS => k_is)
    (case a_BadValue => k_is)
    (case x_BadValue => k_is)
    (case sa_BadValue => k_is)
    (case ga_BadValue => k_is)
    (case gg_BadValue => k_is)
    (case nf_BadValue => k_is)
    (case kc_BadValue => k_is)
    (case ex_BadValue => k_is)
    (case ty_BadValue => k_is)
    (case hd_BadValue => k_is)
    (case fi_BadValue => k_is)
    (case ti_BadValue => k_is)
    (case l_BadValue => k_is)
    (case c_BadValue => k_is)
    (case ic_Race => k_is)
    (case ty_Race => k_is)
    (case su_Race_int => k_is)
    (case su_Race_bool => k_is)
    (case su_Race_list => k_is)
    (case su_Race_tuple => k_is)
    (case su_Race_str => k_is)
    (case a_is_integer => k_is)
    (case l_is_integer => k_is)
    (case c_is_integer => k_is)
    (case k_is_integer_ => k_is)
    (case a_is_integer_within => k_is)
    (case l_is_integer_within => k_is)
    (case c_is_integer_within => k_is)
    (case k_is_integer_within_ => k_is)
    (case a_is_sequence => k_is)
    (case l_is_sequence => k_is)
    (case c_is_sequence => k_is)
    (case k_is_sequence_ => k_is)
    (case a_need_race => k_is)
    (case l_need_race => k_is)
    (case c_need_race => k_is)
    (case k_need_race_ => k_is)
    (case a__subsets => k_is)
    (case l__subsets => k_is)
    (case c__subsets => k_is)
    (case k__subsets_ => k_is)
    (case a_Race_absent => k_is)
    (case pr_Race_absent => k_is)
    (case pt_Race_absent => k_is)
    (case pk_Race_absent => k_is)
    (case l_Race_absent => k_is)
    (case c_Race_absent => k_is)
    (case k_Race_absent_ => k_is)
    (case a_Race_runners => k_is)
    (case pr_Race_runners => k_is)
    (case pt_Race_runners => k_is)
    (case pk_Race_runners => k_is)
    (case l_Race_runners => k_is)
    (case c_Race_runners => k_is)
    (case k_Race_runners_ => k_is)
    (case a__may_come_level => k_is)
    (case l__may_come_level => k_is)
    (case c__may_come_level => k_is)
    (case k__may_come_level_ => k_is)
    (case a__without => k_is)
    (case l__without => k_is)
    (case c__without => k_is)
    (case k__without_ => k_is)
    (case a__orders => k_is)
    (case l__orders => k_is)
    (case c__orders => k_is)
    (case k__orders_ => k_is)
    (case a_Race_ties => k_is)
    (case pr_Race_ties => k_is)
    (case pt_Race_ties => k_is)
    (case pk_Race_ties => k_is)
    (case l_Race_ties => k_is)
    (case c_Race_ties => k_is)
    (case k_Race_ties_ => k_is)
    (case a_outcomes => k_is)
    (case l_outcomes => k_is)
    (case c_outcomes => k_is)
    (case k_outcomes_ => k_is)
    (case a_running_in => k_is)
    (case l_running_in => k_is)
    (case c_running_in => k_is)
    (case k_running_in_ => k_is)
    (case a__are_runners => k_is)
    (case l__are_runners => k_is)
    (case c__are_runners => k_is)
    (case k__are_runners_ => k_is)
    (case a__is_ascending => k_is)
    (case l__is_ascending => k_is)
    (case c__is_ascending => k_is)
    (case k__is_ascending_ => k_is)
    (case a__is_group => k_is)
    (case l__is_group => k_is)
    (case c__is_group => k_is)
    (case k__is_group_ => k_is)
    (case a_is_outcome => k_is)
    (case l_is_outcome => k_is)
    (case c_is_outcome => k_is)
    (case k_is_outcome_ => k_is)
    (case a__are_cuts => k_is)
    (case l__are_cuts => k_is)
    (case c__are_cuts => k_is)
    (case k__are_cuts_ => k_is)
    (case a__law_so => k_is)
    (case l__law_so => k_is)
    (case c__law_so => k_is)
    (case k__law_so_ => k_is)
    (case a__law_numbers => k_is)
    (case l__law_numbers => k_is)
    (case c__law_numbers => k_is)
    (case k__law_numbers_ => k_is)
    (case a__law_draw => k_is)
    (case l__law_draw => k_is)
    (case c__law_draw => k_is)
    (case k__law_draw_ => k_is)
    (case a__law_take => k_is)
    (case l__law_take => k_is)
    (case c__law_take => k_is)
    (case k__law_take_ => k_is)
    (case a__law_loose => k_is)
    (case l__law_loose => k_is)
    (case c__law_loose => k_is)
    (case k__law_loose_ => k_is)
    (case a__law_race => k_is)
    (case l__law_race => k_is)
    (case c__law_race => k_is)
    (case k__law_race_ => k_is)
    (case a_Race_init => k_is)
    (case if_Race_init => k_is)
    (case l_Race_init => k_is)
    (case lT_Race_init => k_is)
    (case c_Race_init => k_is)
    (case k_Race_init_ => k_is)
    (case a__law_made => k_is)
    (case l__law_made => k_is)
    (case c__law_made => k_is)
    (case k__law_made_ => k_is)
    (case a__law_subsets => k_is)
    (case l__law_subsets => k_is)
    (case c__law_subsets => k_is)
    (case k__law_subsets_ => k_is)
    (case a__law_orders => k_is)
    (case l__law_orders => k_is)
    (case c__law_orders => k_is)
    (case k__law_orders_ => k_is)
    (case a__law_outcomes => k_is)
    (case l__law_outcomes => k_is)
    (case c__law_outcomes => k_is)
    (case k__law_outcomes_ => k_is)
    (case a__law_plain_in => k_is)
    (case l__law_plain_in => k_is)
    (case c__law_plain_in => k_is)
    (case k__law_plain_in_ => k_is)
    (case a_law => k_is)
    (case l_law => k_is)
    (case c_law => k_is)
    (case k_law_ => k_is)
    (case a_Race_cuts => k_is)
    (case pr_Race_cuts => k_is)
    (case pt_Race_cuts => k_is)
    (case pk_Race_cuts => k_is)
    (case l_Race_cuts => k_is)
    (case c_Race_cuts => k_is)
    (case k_Race_cuts_ => k_is)
#print axioms PySem.Challenge.cw_racebooks_k10_outcomes_of_races_holds
