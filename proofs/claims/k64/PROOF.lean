import PyProof.Rows.All
import Wide.All
import OpenK.AllK
import Wide.FinOn
import HandS.ForMost
import HandS.ForExc
import HandS.ExcInit
import HandS.ExcIs
import HandS.ExcField
import HandS.ExcValue
import HandS.Defaults
import HandS.MakeKw
import HandS.MakeKwOnly
import HandS.Flow
import HandS.Style
import HandS.IsInst
import HandS.SortInts
import HandS.StrMore
import HandS.RaiseMore
import HandS.Wide
import HandS.WideMore
import HandS.WideBits
import HandS.AnyAll
import HandS.Lambda
import HandS.Nested
import HandS.CallLocal
import HandS.HeadHook4
import HandS.HeadWalk
import HandS.Head0
import HandS.Head1
import HandS.Head2
import HandS.EndTab
import HandS.Conv
import HandS.Deep
import HandS.ListEq
import HandS.SortKw
import HandS.NoneIn
import HandS.Sort
import HandS.Walk
import KE.KExcIs
import KE.KExcInit
import PySem.Challenge.RW_turnlines_k64_errors_made
set_option Elab.async false
set_option linter.all false
set_option maxRecDepth 100000
set_option maxHeartbeats 0
set_option exponentiation.threshold 1000
namespace TL
open PySem PySem.Spec L2

/-! ## the ledger -/
abbrev Led := List (Addr × HO)
/-- a table of a def's code: of genexps (none), of lambdas that bear the name q -/
def TbOk (H : Hp) (p : Addr × Option Str) : Prop := match p.2 with
  | none => GxR.TabG H p.1
  | some q => LamX.TabS H p.1 q
/-- F: what stands and is not changed; l: what may be changed, or was made here -/
structure SH (ts : List (Addr × Option Str)) (F H : Hp) (l : Led) : Prop where
  ext : ∀ b o, F b = some o → H b = some o
  nt : ∀ b ps, F b ≠ some (.tbl ps)
  at_ : ∀ p ∈ l, H p.1 = some p.2 ∧ F p.1 = none
  nd : (l.map (·.1)).Nodup
  tab : ∀ p ∈ ts, TbOk H p
  lt_ : ∀ p ∈ l, ∀ ps, p.2 ≠ .tbl ps

section
variable {ts : List (Addr × Option Str)} {F H : Hp} {l l' : Led} {a b p : Addr} {o o' : HO}
theorem SH.tbl (S : SH ts F H l) {t : Addr × Option Str} (h : t ∈ ts) : ∃ ps, H t.1 = some (.tbl ps) := by
  have q := S.tab t h
  obtain ⟨P, n⟩ := t
  cases n with
  | none => obtain ⟨ps, h1, _⟩ := (show GxR.TabG H P from q); exact ⟨ps, h1⟩
  | some m => obtain ⟨ps, h1, _⟩ := (show LamX.TabS H P m from q); exact ⟨ps, h1⟩
/-- a table stays one where all else than a changes -/
theorem TbOk.upd {t : Addr × Option Str} (q : TbOk H t) (h1 : t.1 ≠ a) (h2 : ∀ φ, H a ≠ some (.ext φ)) : TbOk (upd H a o) t := by
  obtain ⟨P, n⟩ := t
  cases n with
  | none =>
    obtain ⟨ps, e1, e2⟩ := (show GxR.TabG H P from q)
    exact ⟨ps, by rw [upd_ne h1]; exact e1, e2⟩
  | some m =>
    obtain ⟨ps, e1, e2, e3⟩ := (show LamX.TabS H P m from q)
    refine ⟨ps, by rw [upd_ne h1]; exact e1, e2, fun pos cv hc => ?_⟩
    obtain ⟨c, z1, z2⟩ := e3 pos cv hc
    refine ⟨c, z1, ?_⟩
    rw [upd_ne (fun z => h2 _ (by rw [← z]; exact z2))]
    exact z2
theorem SH.ne_tab (S : SH ts F H l) (h : (a, o) ∈ l) {t : Addr × Option Str} (ht : t ∈ ts) : t.1 ≠ a := by
  intro z
  obtain ⟨ps, e⟩ := S.tbl ht
  have q := (S.at_ _ h).1
  rw [z] at e
  rw [e] at q
  exact S.lt_ _ h ps (Option.some.inj q).symm
/-- a new object -/
theorem SH.alloc (S : SH ts F H l) (h : H p = none) (ho : ∀ ps, o ≠ .tbl ps) : SH ts F (upd H p o) ((p, o) :: l) where
  ext := fun b u e => by rw [upd_ne (ne_of_none (S.ext b u e) h)]; exact S.ext b u e
  nt := S.nt
  at_ := fun q hq => by
    rcases List.mem_cons.mp hq with e | hq
    · rw [e]
      refine ⟨upd_same, ?_⟩
      cases z : F p with
      | none => rfl
      | some u =>
        have := S.ext p u z
        rw [h] at this; cases this
    · obtain ⟨e1, e2⟩ := S.at_ q hq
      exact ⟨by rw [upd_ne (ne_of_none e1 h)]; exact e1, e2⟩
  nd := by
    rw [List.map_cons]
    refine List.nodup_cons.mpr ⟨fun z => ?_, S.nd⟩
    obtain ⟨q, hq, e⟩ := List.mem_map.mp z
    have e1 := (S.at_ q hq).1
    have e2 : q.1 = p := e
    rw [e2, h] at e1; cases e1
  tab := fun t ht => by
    obtain ⟨ps, e⟩ := S.tbl ht
    exact (S.tab t ht).upd (ne_of_none e h) fun φ z => by rw [h] at z; cases z
  lt_ := fun q hq => by
    rcases List.mem_cons.mp hq with e | hq
    · rw [e]; exact ho
    · exact S.lt_ q hq
/-- fewer known -/
theorem SH.drop (S : SH ts F H l) (hs : ∀ q ∈ l', q ∈ l) (nd : (l'.map (·.1)).Nodup) : SH ts F H l' :=
  ⟨S.ext, S.nt, fun q hq => S.at_ q (hs q hq), nd, S.tab, fun q hq => S.lt_ q (hs q hq)⟩
theorem SH.sub (S : SH ts F H l) (hs : l'.Sublist l) : SH ts F H l' := S.drop (fun q hq => hs.subset hq) ((hs.map _).nodup S.nd)
theorem SH.perm (S : SH ts F H l) (hp : l.Perm l') : SH ts F H l' := S.drop (fun q hq => hp.mem_iff.mpr hq) ((hp.map _).nodup_iff.mp S.nd)
/-- distinct entries -/
theorem nd_at {α β : Type} {l : List (α × β)} (hN : (l.map (·.1)).Nodup) {i : Nat} {p q : α × β} (a : l[i]? = some p) (b : q ∈ l) (e : q.1 = p.1) : q = p := by
  obtain ⟨j, hj, rfl⟩ := List.getElem_of_mem b
  obtain ⟨hi, rfl⟩ := List.getElem?_eq_some_iff.mp a
  have h1 : (l.map (·.1))[j]'(by simpa using hj) = (l.map (·.1))[i]'(by simpa using hi) := by simpa using e
  have := (List.getElem_inj hN).mp h1
  subst this; rfl
theorem mem_set {α : Type} {l : List α} {i : Nat} {x y : α} (h : y ∈ l.set i x) : y = x ∨ ∃ j, j ≠ i ∧ l[j]? = some y := by
  obtain ⟨j, hj, e⟩ := List.getElem_of_mem h
  by_cases q : i = j
  · left; subst q; simpa using e.symm
  · right
    refine ⟨j, Ne.symm q, ?_⟩
    rw [List.getElem_set_ne q] at e
    rw [List.getElem?_eq_some_iff]
    exact ⟨by simpa using hj, e⟩
/-- an entry is written -/
theorem SH.write {i : Nat} (S : SH ts F H l) (h : l[i]? = some (a, o)) (hx : ∀ φ, o ≠ .ext φ) (ho : ∀ ps, o' ≠ .tbl ps) : SH ts F (upd H a o') (l.set i (a, o')) where
  ext := fun b u e => by
    have hm := List.mem_of_getElem? h
    have z := (S.at_ _ hm).2
    rw [upd_ne (fun q => by rw [q] at e; rw [show F a = none from z] at e; cases e)]
    exact S.ext b u e
  nt := S.nt
  at_ := fun q hq => by
    have hm := List.mem_of_getElem? h
    rcases mem_set hq with e | ⟨j, hj, e⟩
    · rw [e]; exact ⟨upd_same, (S.at_ _ hm).2⟩
    · have hq' := List.mem_of_getElem? e
      have ne : q.1 ≠ a := fun z => by
        have h1 := nd_ix (l := l.map (·.1)) S.nd (i := j) (j := i) (x := a) (by rw [List.getElem?_map, e, ← z]; rfl) (by rw [List.getElem?_map, h]; rfl)
        exact hj h1
      exact ⟨by rw [upd_ne ne]; exact (S.at_ q hq').1, (S.at_ q hq').2⟩
  nd := by
    have : (l.set i (a, o')).map (·.1) = l.map (·.1) := by
      rw [List.map_set]
      apply List.ext_getElem?
      intro j
      by_cases q : i = j
      · subst q
        obtain ⟨hi, e⟩ := List.getElem?_eq_some_iff.mp h
        rw [List.getElem?_set_self (by simpa using hi), List.getElem?_map, h]; rfl
      · rw [List.getElem?_set_ne q]
    rw [this]; exact S.nd
  tab := fun t ht => by
    have hm := List.mem_of_getElem? h
    refine (S.tab t ht).upd (S.ne_tab hm ht) fun φ z => ?_
    rw [(S.at_ _ hm).1] at z
    exact hx φ (Option.some.inj z)
  lt_ := fun q hq => by
    rcases mem_set hq with e | ⟨j, hj, e⟩
    · rw [e]; exact ho
    · exact S.lt_ q (List.mem_of_getElem? e)
/-- the first entry is known from now on as what does not change -/
theorem SH.freeze (S : SH ts F H ((a, o) :: l)) : SH ts (upd F a o) H l where
  ext := fun b u e => by
    by_cases q : b = a
    · rw [q, upd_same] at e
      rw [q, ← Option.some.inj e]
      exact (S.at_ (a, o) (List.mem_cons_self ..)).1
    · rw [upd_ne q] at e; exact S.ext b u e
  nt := fun b ps z => by
    by_cases q : b = a
    · rw [q, upd_same] at z
      exact S.lt_ (a, o) (List.mem_cons_self ..) ps (Option.some.inj z)
    · rw [upd_ne q] at z; exact S.nt b ps z
  at_ := fun q hq => by
    obtain ⟨e1, e2⟩ := S.at_ q (List.mem_cons_of_mem _ hq)
    refine ⟨e1, ?_⟩
    rw [upd_ne (fun z => ?_)]
    · exact e2
    · have nd := S.nd
      rw [List.map_cons] at nd
      exact (List.nodup_cons.mp nd).1 (List.mem_map.mpr ⟨q, hq, z⟩)
  nd := by have nd := S.nd; rw [List.map_cons] at nd; exact (List.nodup_cons.mp nd).2
  tab := S.tab
  lt_ := fun q hq => S.lt_ q (List.mem_cons_of_mem _ hq)
/-- back: what does not change may be changed -/
theorem SH.less (S : SH ts F H l) {F' : Hp} (h : ∀ b o, F' b = some o → F b = some o) : SH ts F' H l where
  ext := fun b u e => S.ext b u (h b u e)
  nt := fun b ps z => S.nt b ps (h _ _ z)
  at_ := fun q hq => ⟨(S.at_ q hq).1, by
    cases z : F' q.1 with
    | none => rfl
    | some u =>
      have := h _ _ z
      rw [(S.at_ q hq).2] at this; cases this⟩
  nd := S.nd
  tab := S.tab
  lt_ := S.lt_
end

/-- what grows -/
def Mono (F F' : Hp) : Prop := ∀ b o, F b = some o → F' b = some o
theorem Mono.rfl {F : Hp} : Mono F F := fun _ _ h => h
theorem Mono.trans {F F1 F2 : Hp} (a : Mono F F1) (b : Mono F1 F2) : Mono F F2 := fun c o h => b c o (a c o h)
theorem Mono.new {F : Hp} {p : Addr} {o : HO} (h : F p = none) : Mono F (upd F p o) := fun b u e => by rw [upd_ne (ne_of_none e h)]; exact e

/-! ## judgements upon the ledger -/
section
variable (X : Cx)
def tW (e : Expr) : TE := fun σ H Q => ∀ (pins : List (Addr × Obj)) (s : Shared), Inv X pins σ H s → wpAny (model X.prog X.w) X.A (eval e X.env) (EP X pins σ Q) X.xe s
def tWT (e : Expr) : TT := fun σ H Q => ∀ (pins : List (Addr × Obj)) (s : Shared), Inv X pins σ H s → wpAny (model X.prog X.w) X.A (isTrue e X.env (eval e X.env)) (TP X pins σ Q) X.xe s
def tWW (e : Expr) : TT := fun σ H Q => ∀ (wh : Sem Value) (pins : List (Addr × Obj)) (s : Shared), Inv X pins σ H s → wpAny (model X.prog X.w) X.A (isTrue e X.env wh) (TP X pins σ Q) X.xe s
def tWA (es : List Expr) : TA := fun σ H Q => ∀ (pos : Pos) (pins : List (Addr × Obj)) (s : Shared), Inv X pins σ H s → wpAny (model X.prog X.w) X.A (spliced (backTo pos (starEach es X.env))) (AP X pins σ Q) X.xe s
def tWS (st : Stmt) : TS := fun D σ H => ∀ (pins : List (Addr × Obj)) (s : Shared), Inv X pins σ H s → wpAny (model X.prog X.w) X.A (exec st X.env) (SP X pins D) X.xe s
def tWB (st : List Stmt) : TS := fun D σ H => ∀ (pins : List (Addr × Obj)) (s : Shared), Inv X pins σ H s → wpAny (model X.prog X.w) X.A (execs st X.env) (SP X pins D) X.xe s
theorem pe_W (e : Expr) : PE X e (tW X e) := ⟨fun pins s _ _ _ I h => h pins s I⟩
theorem pt_W (e : Expr) : PT X e (tWT X e) := ⟨fun pins s _ _ _ I h => h pins s I⟩
theorem pw_W (e : Expr) : PW X e (tWW X e) := ⟨fun wh pins s _ _ _ I h => h wh pins s I⟩
theorem pa_W (e : List Expr) : PA X e (tWA X e) := ⟨fun pos pins s _ _ _ I h => h pos pins s I⟩
theorem ps_W (e : Stmt) : PS X e (tWS X e) := ⟨fun pins s _ _ _ I h => h pins s I⟩
theorem pss_W (e : List Stmt) : PSs X e (tWB X e) := ⟨fun pins s _ _ _ I h => h pins s I⟩
end
section
variable {X : Cx} {σ : St} {H : Hp}
theorem PE.toW {e : Expr} {t : TE} (h : PE X e t) {Q : VK} (q : t σ H Q) : tW X e σ H Q := fun pins s I => h.run pins s σ H Q I q
theorem PT.toW {e : Expr} {t : TT} (h : PT X e t) {Q : Bool → Hp → Prop} (q : t σ H Q) : tWT X e σ H Q := fun pins s I => h.run pins s σ H Q I q
theorem PW.toW {e : Expr} {t : TT} (h : PW X e t) {Q : Bool → Hp → Prop} (q : t σ H Q) : tWW X e σ H Q := fun wh pins s I => h.run wh pins s σ H Q I q
theorem PA.toW {e : List Expr} {t : TA} (h : PA X e t) {Q : List V → Hp → Prop} (q : t σ H Q) : tWA X e σ H Q := fun pos pins s I => h.run pos pins s σ H Q I q
theorem PS.toW {e : Stmt} {t : TS} (h : PS X e t) {D : Ends} (q : t D σ H) : tWS X e D σ H := fun pins s I => h.run pins s σ H D I q
theorem PSs.toW {e : List Stmt} {t : TS} (h : PSs X e t) {D : Ends} (q : t D σ H) : tWB X e D σ H := fun pins s I => h.run pins s σ H D I q
theorem tW.mono {e : Expr} {Q Q' : VK} (h : tW X e σ H Q) (k : ∀ v H', Q v H' → Q' v H') : tW X e σ H Q' := fun pins s I => thn (h pins s I) fun _ _ ⟨v, H', I', r, q⟩ => ⟨v, H', I', r, k v H' q⟩
theorem tWT.mono {e : Expr} {Q Q' : Bool → Hp → Prop} (h : tWT X e σ H Q) (k : ∀ v H', Q v H' → Q' v H') : tWT X e σ H Q' := fun pins s I => thn (h pins s I) fun _ _ ⟨H', I', q⟩ => ⟨H', I', k _ H' q⟩
theorem tWW.mono {e : Expr} {Q Q' : Bool → Hp → Prop} (h : tWW X e σ H Q) (k : ∀ v H', Q v H' → Q' v H') : tWW X e σ H Q' := fun wh pins s I => thn (h wh pins s I) fun _ _ ⟨H', I', q⟩ => ⟨H', I', k _ H' q⟩
theorem tWA.mono {e : List Expr} {Q Q' : List V → Hp → Prop} (h : tWA X e σ H Q) (k : ∀ v H', Q v H' → Q' v H') : tWA X e σ H Q' := fun pos pins s I => thn (h pos pins s I) fun _ _ ⟨v, H', I', r, q⟩ => ⟨v, H', I', r, k v H' q⟩
structure EndsLe (D D' : Ends) : Prop where
  nx : ∀ σ H, D.nx σ H → D'.nx σ H
  rt : ∀ v H, D.rt v H → D'.rt v H
  bk : ∀ σ H, D.bk σ H → D'.bk σ H
  ct : ∀ σ H, D.ct σ H → D'.ct σ H
theorem SP.mono {pins : List (Addr × Obj)} {D D' : Ends} {f : Flow} {s : Shared} (h : SP X pins D f s) (k : EndsLe D D') : SP X pins D' f s := by
  cases f with
  | next => obtain ⟨σ', H', I, q⟩ := h; exact ⟨σ', H', I, k.nx _ _ q⟩
  | brk => obtain ⟨σ', H', I, q⟩ := h; exact ⟨σ', H', I, k.bk _ _ q⟩
  | cont => obtain ⟨σ', H', I, q⟩ := h; exact ⟨σ', H', I, k.ct _ _ q⟩
  | ret u => obtain ⟨v, σ', H', I, r, q⟩ := h; exact ⟨v, σ', H', I, r, k.rt _ _ q⟩
theorem tWS.mono {e : Stmt} {D D' : Ends} (h : tWS X e D σ H) (k : EndsLe D D') : tWS X e D' σ H := fun pins s I => thn (h pins s I) fun _ _ q => SP.mono q k
theorem tWB.mono {e : List Stmt} {D D' : Ends} (h : tWB X e D σ H) (k : EndsLe D D') : tWB X e D' σ H := fun pins s I => thn (h pins s I) fun _ _ q => SP.mono q k
end

abbrev Ts := List (Addr × Option Str)
abbrev RV := V → Hp → Led → Prop
abbrev RB := Bool → Hp → Led → Prop
abbrev RL := List V → Hp → Led → Prop
abbrev RS := St → Hp → Led → Prop
/-- what is known here tells what is known there -/
def Ent (ts : Ts) (F : Hp) (l : Led) (F' : Hp) (l' : Led) : Prop := ∀ H, SH ts F H l → SH ts F' H l'
def Up {α : Type} (ts : Ts) (P : α → Hp → Led → Prop) : α → Hp → Led → Prop := fun v F l => ∃ F' l', Ent ts F l F' l' ∧ P v F' l'
theorem Up.of {α : Type} {ts : Ts} {P : α → Hp → Led → Prop} {v : α} {F : Hp} {l : Led} (h : P v F l) : Up ts P v F l := ⟨F, l, fun _ S => S, h⟩
def QR {α : Type} (ts : Ts) (R : α → Hp → Led → Prop) : α → Hp → Prop := fun v H => ∃ F l, SH ts F H l ∧ R v F l
theorem QR.up {α : Type} {ts : Ts} {R : α → Hp → Led → Prop} {v : α} {H : Hp} (h : QR ts (Up ts R) v H) : QR ts R v H := by
  obtain ⟨F, l, S, F', l', e, r⟩ := h
  exact ⟨F', l', e H S, r⟩
structure EndsL where
  nx : RS
  rt : RV
  bk : RS := fun _ _ _ => False
  ct : RS := fun _ _ _ => False
def EndsL.E (ts : Ts) (D : EndsL) : Ends := { nx := QR ts D.nx, rt := QR ts D.rt, bk := QR ts D.bk, ct := QR ts D.ct }
section
variable (X : Cx) (ts : Ts)
def EX (e : Expr) (σ : St) (F : Hp) (l : Led) (R : RV) : Prop := ∀ H, SH ts F H l → tW X e σ H (QR ts R)
def ET (e : Expr) (σ : St) (F : Hp) (l : Led) (R : RB) : Prop := ∀ H, SH ts F H l → tWT X e σ H (QR ts R)
def EW (e : Expr) (σ : St) (F : Hp) (l : Led) (R : RB) : Prop := ∀ H, SH ts F H l → tWW X e σ H (QR ts R)
def EA (es : List Expr) (σ : St) (F : Hp) (l : Led) (R : RL) : Prop := ∀ H, SH ts F H l → tWA X es σ H (QR ts R)
def SX (st : Stmt) (σ : St) (F : Hp) (l : Led) (D : EndsL) : Prop := ∀ H, SH ts F H l → tWS X st (D.E ts) σ H
def BX (st : List Stmt) (σ : St) (F : Hp) (l : Led) (D : EndsL) : Prop := ∀ H, SH ts F H l → tWB X st (D.E ts) σ H
/-- a two-place operation on values -/
def OW (f : Value → Value → Sem Value) (x y : V) (H : Hp) (Q : VK) : Prop :=
  ∀ (pins : List (Addr × Obj)) (s : Shared) (σ : St) (v u : Value), Inv X pins σ H s → RelV x v → RelV y u → wpAny (model X.prog X.w) X.A (f v u) (EP X pins σ Q) X.xe s
def OG (f : Value → Value → Sem Value) (x y : V) (F : Hp) (l : Led) (R : RV) : Prop := ∀ H, SH ts F H l → OW X f x y H (QR ts R)
def UW (f : Value → Sem Value) (x : V) (H : Hp) (Q : VK) : Prop :=
  ∀ (pins : List (Addr × Obj)) (s : Shared) (σ : St) (v : Value), Inv X pins σ H s → RelV x v → wpAny (model X.prog X.w) X.A (f v) (EP X pins σ Q) X.xe s
def UG (f : Value → Sem Value) (x : V) (F : Hp) (l : Led) (R : RV) : Prop := ∀ H, SH ts F H l → UW X f x H (QR ts R)
/-- a call of a known value with values -/
def CW (f : Value) (xs : List V) (H : Hp) (Q : VK) : Prop :=
  ∀ (pins : List (Addr × Obj)) (s : Shared) (σ : St) (us : List Value), Inv X pins σ H s → Vals xs us → wpAny (model X.prog X.w) X.A (call f us) (EP X pins σ Q) X.xe s
def CG (f : Value) (xs : List V) (F : Hp) (l : Led) (R : RV) : Prop := ∀ H, SH ts F H l → CW X f xs H (QR ts R)
end
theorem opr_W {X : Cx} {f : Value → Value → Sem Value} : OpR X f (OW X f) := fun pins s σ H x y v u Q I rx ry h => h pins s σ v u I rx ry
theorem unr_W {X : Cx} {f : Value → Sem Value} : UnR X f (UW X f) := fun pins s σ H x v Q I rx h => h pins s σ v I rx
theorem callr_W {X : Cx} {f : Value} : CallR X f (CW X f) := fun pins s σ H xs us Q I rx h => h pins s σ us I rx
section
variable {X : Cx} {ts : Ts} {σ : St} {F : Hp} {l : Led} {R : RV} {a b c : Expr} {pos : Pos}
theorem OG.of {f : Value → Value → Sem Value} {r : R2} {x y : V} (ho : OpR X f r) (h : ∀ H, SH ts F H l → r x y H (QR ts R)) : OG X ts f x y F l R := fun H S pins s σ v u I rx ry => ho pins s σ H x y v u _ I rx ry (h H S)
theorem UG.of {f : Value → Sem Value} {r : V → Hp → VK → Prop} {x : V} (ho : UnR X f r) (h : ∀ H, SH ts F H l → r x H (QR ts R)) : UG X ts f x F l R := fun H S pins s σ v I rx => ho pins s σ H x v _ I rx (h H S)
theorem CG.of {f : Value} {r : List V → Hp → VK → Prop} {xs : List V} (ho : CallR X f r) (h : ∀ H, SH ts F H l → r xs H (QR ts R)) : CG X ts f xs F l R := fun H S pins s σ us I rx => ho pins s σ H xs us _ I rx (h H S)
/-! ### values -/
theorem ex_of {t : TE} (h : PE X a t) (q : ∀ H, SH ts F H l → t σ H (QR ts R)) : EX X ts a σ F l R := fun H S => PE.toW h (q H S)
theorem ex_mono {R' : RV} (h : EX X ts a σ F l R) (k : ∀ v F' l', R v F' l' → R' v F' l') : EX X ts a σ F l R' := fun H S => (h H S).mono fun v H' ⟨F', l', S', r⟩ => ⟨F', l', S', k v F' l' r⟩
theorem ex_name {x : Str} {i : Nat} {v : V} (hN : X.N[i]? = some x) (hv : Vis X.env.scope x) (hσ : σ[i]? = some (some v)) (h : R v F l) (hd : (x == ("__debug__" : Str)) = false := by decide) (hcd : (x == ("__classdict__" : Str)) = false := by decide) : EX X ts (.Name x pos) σ F l R :=
  ex_of (pe_var hN hv hd hcd) fun H S => ⟨v, hσ, F, l, S, h⟩
theorem ex_glob {x : Str} {v : V} {u : Value} (hg : Gl X x) (hm : X.mg x = some u) (r : RelV v u) (h : R v F l) (hd : (x == ("__debug__" : Str)) = false := by decide) : EX X ts (.Name x pos) σ F l R :=
  ex_of (pe_glob hg hm r hd) fun H S => ⟨F, l, S, h⟩
theorem ex_int {i : Int} {j} (h : R (.int i) F l) : EX X ts (.Constant (.int i) j pos) σ F l R := ex_of pe_int fun H S => ⟨F, l, S, h⟩
theorem ex_bl {i : Bool} {j} (h : R (.bl i) F l) : EX X ts (.Constant (.bool i) j pos) σ F l R := ex_of pe_bl fun H S => ⟨F, l, S, h⟩
theorem ex_non {j} (h : R .non F l) : EX X ts (.Constant .none j pos) σ F l R := ex_of pe_non fun H S => ⟨F, l, S, h⟩
theorem ex_str {i : Str} {j} (h : R (.str i) F l) : EX X ts (.Constant (.str i) j pos) σ F l R := ex_of pe_str fun H S => ⟨F, l, S, h⟩
theorem ex_bin {op : Operator} (h : EX X ts a σ F l fun x F1 l1 => EX X ts b σ F1 l1 fun y F2 l2 => OG X ts (binaryOp op) x y F2 l2 R) : EX X ts (.BinOp a op b pos) σ F l R :=
  ex_of (pe_op opr_W (pe_W X a) (pe_W X b)) fun H S => (h H S).mono fun x H1 ⟨F1, l1, S1, h1⟩ => (h1 H1 S1).mono fun y H2 ⟨F2, l2, S2, h2⟩ => h2 H2 S2
theorem ex_un {op : UnaryOp} (h : EX X ts a σ F l fun x F1 l1 => UG X ts (unaryOp op) x F1 l1 R) : EX X ts (.UnaryOp op a pos) σ F l R :=
  ex_of (pe_un unr_W (pe_W X a)) fun H S => (h H S).mono fun x H1 ⟨F1, l1, S1, h1⟩ => h1 H1 S1
theorem ex_cmp {op : CmpOp} (hm : behindInMarks op b = false) (h : EX X ts a σ F l fun x F1 l1 => EX X ts b σ F1 l1 fun y F2 l2 => OG X ts (compareOp op) x y F2 l2 R) : EX X ts (.Compare a [op] [b] pos) σ F l R :=
  ex_of (pe_cmpR opr_W (pe_W X a) (pe_W X b) hm) fun H S => (h H S).mono fun x H1 ⟨F1, l1, S1, h1⟩ => (h1 H1 S1).mono fun y H2 ⟨F2, l2, S2, h2⟩ => h2 H2 S2
end
end TL

namespace TL
open PySem PySem.Spec L2

/-! ## what is read -/
abbrev Sub (l' l : Led) : Prop := ∃ m : Led, m.Sublist l ∧ m.Perm l'
theorem Sub.rfl {l : Led} : Sub l l := ⟨l, List.Sublist.refl _, List.Perm.refl _⟩
theorem Sub.nil {l : Led} : Sub [] l := ⟨[], List.nil_sublist _, List.Perm.refl _⟩
theorem Sub.tail {l : Led} {p : Addr × HO} : Sub l (p :: l) := ⟨l, List.Sublist.cons _ (List.Sublist.refl _), List.Perm.refl _⟩
theorem perm_erase {α : Type} : ∀ {l : List α} {i : Nat} {e : α}, l[i]? = some e → l.Perm (e :: l.eraseIdx i)
  | a :: l, 0, e, h => by have z : a = e := Option.some.inj h; subst z; exact List.Perm.refl _
  | a :: l, i + 1, e, h => ((perm_erase (l := l) (i := i) (by simpa using h)).cons a).trans (List.Perm.swap _ _ _)
theorem Sub.pick {t l : Led} {e : Addr × HO} (i : Nat) (h : l[i]? = some e) (h2 : Sub t (l.eraseIdx i)) : Sub (e :: t) l := by
  obtain ⟨m, h3, h4⟩ := h2
  have hp := perm_erase h
  obtain ⟨l2, s1, s2⟩ := List.exists_perm_sublist (List.Sublist.cons₂ e h3) hp.symm
  exact ⟨l2, s2, s1.trans (h4.cons e)⟩
theorem Sub.trans {a b c : Led} (h1 : Sub a b) (h2 : Sub b c) : Sub a c := by
  obtain ⟨m1, s1, p1⟩ := h1
  obtain ⟨m2, s2, p2⟩ := h2
  obtain ⟨l2, s3, s4⟩ := List.exists_perm_sublist s1 p2.symm
  exact ⟨l2, s4.trans s2, s3.trans p1⟩
theorem SH.to {ts : Ts} {F H : Hp} {l l' : Led} (S : SH ts F H l) (h : Sub l' l) : SH ts F H l' := by
  obtain ⟨m, h1, h2⟩ := h
  exact (S.sub h1).perm h2

theorem ent_sub {ts : Ts} {F : Hp} {l l' : Led} (h : Sub l' l) : Ent ts F l F l' := fun _ S => S.to h
theorem ent_freeze {ts : Ts} {F : Hp} {l : Led} {a : Addr} {o : HO} : Ent ts F ((a, o) :: l) (upd F a o) l := fun _ S => S.freeze
theorem Ent.rfl {ts : Ts} {F : Hp} {l : Led} : Ent ts F l F l := fun _ S => S
theorem Ent.trans {ts : Ts} {F F1 F2 : Hp} {l l1 l2 : Led} (a : Ent ts F l F1 l1) (b : Ent ts F1 l1 F2 l2) : Ent ts F l F2 l2 := fun H S => b H (a H S)
theorem up_sub {α : Type} {ts : Ts} {P : α → Hp → Led → Prop} {v : α} {F : Hp} {l l' : Led} (s : Sub l' l) (h : P v F l') : Up ts P v F l := ⟨F, l', ent_sub s, h⟩

def IsL (K : PySem.W.Frag) (F : Hp) (l : Led) (a : Addr) (xs : List V) : Prop := SqL K F a xs ∨ (a, HO.lst xs) ∈ l
def IsT (K : PySem.W.Frag) (F : Hp) (l : Led) (a : Addr) (xs : List V) : Prop := SqT K F a xs ∨ (a, HO.tup xs) ∈ l
/-- data, over all that is known -/
def Dt (K : PySem.W.Frag) (F : Hp) (l : Led) (v : V) (d : PyData) : Prop := ∀ H : Hp, (∀ b o, F b = some o → H b = some o) → (∀ p ∈ l, H p.1 = some p.2) → Dp K H v d
def DtA (K : PySem.W.Frag) (F : Hp) (l : Led) (v : List V) (d : List PyData) : Prop := ∀ H : Hp, (∀ b o, F b = some o → H b = some o) → (∀ p ∈ l, H p.1 = some p.2) → DpAll K H v d
section
variable {K : PySem.W.Frag} {ts : Ts} {F F' H : Hp} {l l' : Led} {a b p : Addr} {o : HO} {xs ys : List V} {v : V} {d : PyData} {ds : List PyData}
theorem rd_mono {u : HO} (e : Mono F H) (h : Rd F a u) : Rd H a u := by
  rcases h with h | ⟨o, h⟩
  · exact .inl (e _ _ h)
  · exact .inr ⟨o, e _ _ h⟩
theorem sq_mono (e : Mono F H) (h : SqL K F a xs) : SqL K H a xs := by
  rcases h with h | h
  · exact .inl (rd_mono e h)
  · exact .inr h
theorem st_mono (e : Mono F H) (h : SqT K F a xs) : SqT K H a xs := by
  rcases h with h | h
  · exact .inl (rd_mono e h)
  · exact .inr h
theorem IsL.sq (h : IsL K F l a xs) (S : SH ts F H l) : SqL K H a xs := by
  rcases h with h | h
  · exact sq_mono S.ext h
  · exact .inl (.inl (S.at_ _ h).1)
theorem IsT.sq (h : IsT K F l a xs) (S : SH ts F H l) : SqT K H a xs := by
  rcases h with h | h
  · exact st_mono S.ext h
  · exact .inl (.inl (S.at_ _ h).1)
mutual
theorem dp_mono (e : Mono F H) : ∀ {d : PyData} {v : V}, Dp K F v d → Dp K H v d
  | .none, _, h => by cases h; exact .non
  | .bool b, _, h => by cases h; exact .bl b
  | .int i, _, h => by cases h; exact .int i
  | .str x, _, h => by cases h; exact .str x
  | .list ds, _, h => by
    cases h with
    | lst h1 h2 => exact .lst (sq_mono e h1) (dpa_mono e h2)
  | .tuple ds, _, h => by
    cases h with
    | tup h1 h2 => exact .tup (st_mono e h1) (dpa_mono e h2)
  | .dict _, _, h => by cases h
theorem dpa_mono (e : Mono F H) : ∀ {ds : List PyData} {vs : List V}, DpAll K F vs ds → DpAll K H vs ds
  | [], _, h => by cases h; exact .nil
  | d :: ds, _, h => by
    cases h with
    | cons h1 h2 => exact .cons (dp_mono e h1) (dpa_mono e h2)
end
theorem Dt.dp (h : Dt K F l v d) (S : SH ts F H l) : Dp K H v d := h H S.ext fun p hp => (S.at_ p hp).1
theorem DtA.dp (h : DtA K F l xs ds) (S : SH ts F H l) : DpAll K H xs ds := h H S.ext fun p hp => (S.at_ p hp).1
theorem Dt.of (h : Dp K F v d) : Dt K F l v d := fun H e _ => dp_mono e h
theorem DtA.of (h : DpAll K F xs ds) : DtA K F l xs ds := fun H e _ => dpa_mono e h
theorem Dt.mono (h : Dt K F l v d) (e : Mono F F') (s : ∀ q ∈ l, q ∈ l') : Dt K F' l' v d := fun H e' z => h H (e.trans e') fun p hp => z p (s p hp)
theorem DtA.mono (h : DtA K F l xs ds) (e : Mono F F') (s : ∀ q ∈ l, q ∈ l') : DtA K F' l' xs ds := fun H e' z => h H (e.trans e') fun p hp => z p (s p hp)
theorem Sub.mem {l' l : Led} (h : Sub l' l) : ∀ q ∈ l', q ∈ l := fun q hq => by
  obtain ⟨m, h1, h2⟩ := h
  exact h1.subset (h2.mem_iff.mpr hq)
theorem IsL.mono (h : IsL K F l a xs) (e : Mono F F') (s : ∀ q ∈ l, q ∈ l') : IsL K F' l' a xs := by
  rcases h with h | h
  · exact .inl (sq_mono e h)
  · exact .inr (s _ h)
theorem IsT.mono (h : IsT K F l a xs) (e : Mono F F') (s : ∀ q ∈ l, q ∈ l') : IsT K F' l' a xs := by
  rcases h with h | h
  · exact .inl (st_mono e h)
  · exact .inr (s _ h)
theorem dt_non : Dt K F l .non .none := fun _ _ _ => .non
theorem dt_bl {b : Bool} : Dt K F l (.bl b) (.bool b) := fun _ _ _ => .bl b
theorem dt_int {i : Int} : Dt K F l (.int i) (.int i) := fun _ _ _ => .int i
theorem dt_str {i : Str} : Dt K F l (.str i) (.str i) := fun _ _ _ => .str i
theorem dt_lst (h : IsL K F l a xs) (q : DtA K F l xs ds) : Dt K F l (.ref a) (.list ds) := fun H e z => by
  refine .lst ?_ (q H e z)
  rcases h with h | h
  · exact sq_mono e h
  · exact .inl (.inl (z _ h))
theorem dt_tup (h : IsT K F l a xs) (q : DtA K F l xs ds) : Dt K F l (.ref a) (.tuple ds) := fun H e z => by
  refine .tup ?_ (q H e z)
  rcases h with h | h
  · exact st_mono e h
  · exact .inl (.inl (z _ h))
theorem dta_nil : DtA K F l [] [] := fun _ _ _ => .nil
theorem dta_cons (h : Dt K F l v d) (q : DtA K F l xs ds) : DtA K F l (v :: xs) (d :: ds) := fun H e z => .cons (h H e z) (q H e z)
theorem dta_ints : ∀ {ns : List Int}, DtA K F l (ns.map V.int) (ns.map PyData.int)
  | [] => dta_nil
  | _ :: _ => dta_cons dt_int dta_ints
theorem dta_app {ds' : List PyData} (h : DtA K F l xs ds) (q : DtA K F l ys ds') : DtA K F l (xs ++ ys) (ds ++ ds') := fun H e z => by
  have h1 := h H e z
  have h2 := q H e z
  clear h q
  induction xs generalizing ds with
  | nil => cases h1; exact h2
  | cons x xs ih => cases h1 with | cons p q => exact .cons p (ih q)
theorem dt_ints {ns : List Int} (h : IsL K F l a (ns.map V.int)) : Dt K F l (.ref a) (.list (ns.map PyData.int)) := dt_lst h dta_ints
/-- of a list that stands as data: its items -/
theorem dt_items (h : Dt K F l (.ref a) (.list ds)) (S : SH ts F H l) : ∃ xs, SqL K H a xs ∧ DpAll K H xs ds := by
  have q := h.dp S
  cases q with
  | lst h1 h2 => exact ⟨_, h1, h2⟩
theorem dpa_len : ∀ {xs : List V} {ds : List PyData}, DpAll K H xs ds → xs.length = ds.length
  | _, _, .nil => rfl
  | _, _, .cons _ h => congrArg Nat.succ (dpa_len h)
theorem dpa_get : ∀ {xs : List V} {ds : List PyData} {i : Nat} {v : V}, DpAll K H xs ds → xs[i]? = some v → ∃ d, ds[i]? = some d ∧ Dp K H v d
  | _, _, _, _, .nil, e => by simp at e
  | _, _, 0, _, .cons h _, e => by simp at e; subst e; exact ⟨_, rfl, h⟩
  | _, _, i + 1, v, .cons _ h, e => by
    obtain ⟨d, h1, h2⟩ := dpa_get (i := i) (v := v) h (by simpa using e)
    exact ⟨d, by simpa using h1, h2⟩
theorem dpa_get2 : ∀ {xs : List V} {ds : List PyData} {i : Nat} {d : PyData}, DpAll K H xs ds → ds[i]? = some d → ∃ v, xs[i]? = some v ∧ Dp K H v d
  | _, _, _, _, .nil, e => by simp at e
  | _, _, 0, _, .cons h _, e => by simp at e; subst e; exact ⟨_, rfl, h⟩
  | _, _, i + 1, v, .cons _ h, e => by
    obtain ⟨d, h1, h2⟩ := dpa_get2 (i := i) (d := v) h (by simpa using e)
    exact ⟨d, by simpa using h1, h2⟩
end

/-! ## operations on values -/
section
variable {X : Cx} {ts : Ts} {σ : L2.St} {F : Hp} {l : Led} {R : RV} {a b p : Addr} {xs ys : List V} {i j : Int}
theorem fin {v : V} {H : Hp} (S : SH ts F H l) (h : R v F l) : QR ts R v H := ⟨F, l, S, h⟩
theorem fin_new {H : Hp} {o : HO} (S : SH ts F H l) (ho : ∀ ps, o ≠ .tbl ps) (h : ∀ p, R (.ref p) F ((p, o) :: l)) : ∀ p, H p = none → QR ts R (.ref p) (upd H p o) := fun p hp => ⟨F, _, S.alloc hp ho, h p⟩
theorem og_add_int (h : R (.int (i + j)) F l) : OG X ts (binaryOp .Add) (.int i) (.int j) F l R := .of op_add fun H S => ⟨i, j, rfl, rfl, fin S h⟩
theorem og_sub_int (h : R (.int (i - j)) F l) : OG X ts (binaryOp .Sub) (.int i) (.int j) F l R := .of op_sub fun H S => ⟨i, j, rfl, rfl, fin S h⟩
theorem og_mul_int (hc : CMulW i j) (h : R (.int (i * j)) F l) : OG X ts (binaryOp .Mult) (.int i) (.int j) F l R := .of op_mulW fun H S => ⟨i, j, rfl, rfl, hc, fin S h⟩
theorem og_fdiv_int (hc : CDivW i j) (h : R (.int (i / j)) F l) : OG X ts (binaryOp .FloorDiv) (.int i) (.int j) F l R := .of op_fdivW fun H S => ⟨i, j, rfl, rfl, hc, fin S h⟩
theorem og_mod_int (hc : 0 < j) (h : R (.int (i % j)) F l) : OG X ts (binaryOp .Mod) (.int i) (.int j) F l R := .of op_mod fun H S => ⟨i, j, rfl, rfl, hc, fin S h⟩
theorem og_pow_int (h0 : 0 ≤ j) (hc : (Builtin.Int.intBits i : Int) * j ≤ 2 ^ 27) (h : R (.int (i ^ j.toNat)) F l) : OG X ts (binaryOp .Pow) (.int i) (.int j) F l R :=
  .of (opI (C := fun i j => 0 ≤ j ∧ (Builtin.Int.intBits i : Int) * j ≤ 2 ^ 27) (g := fun i j => i ^ j.toNat) fun _ _ _ _ _ _ _ hc q => PyProof.Rows.pow_int hc.1 hc.2 q) fun H S => ⟨i, j, rfl, rfl, ⟨h0, hc⟩, fin S h⟩
theorem og_lt_int (h : R (.bl (decide (i < j))) F l) : OG X ts (compareOp .Lt) (.int i) (.int j) F l R := .of op_lt fun H S => ⟨i, j, rfl, rfl, fin S h⟩
theorem og_le_int (h : R (.bl (decide (i ≤ j))) F l) : OG X ts (compareOp .LtE) (.int i) (.int j) F l R := .of op_le fun H S => ⟨i, j, rfl, rfl, fin S h⟩
theorem og_gt_int (h : R (.bl (decide (j < i))) F l) : OG X ts (compareOp .Gt) (.int i) (.int j) F l R := .of op_gt fun H S => ⟨i, j, rfl, rfl, fin S h⟩
theorem og_ge_int (h : R (.bl (decide (j ≤ i))) F l) : OG X ts (compareOp .GtE) (.int i) (.int j) F l R := .of op_ge fun H S => ⟨i, j, rfl, rfl, fin S h⟩
theorem ug_neg (h : R (.int (-i)) F l) : UG X ts (unaryOp .USub) (.int i) F l R := .of un_neg fun H S => ⟨i, rfl, fin S h⟩
/-- == of scalars -/
theorem og_eq {x y : V} (hs : scal x y = true) (h : R (.bl (decide (x = y))) F l) : OG X ts (compareOp .Eq) x y F l R := .of op_eq fun H S => ⟨hs, fin S h⟩
theorem og_ne {x y : V} (hs : scal x y = true) (h : R (.bl (!decide (x = y))) F l) : OG X ts (compareOp .NotEq) x y F l R := .of op_ne fun H S => ⟨hs, fin S h⟩
theorem og_eq_int (h : R (.bl (decide (i = j))) F l) : OG X ts (compareOp .Eq) (.int i) (.int j) F l R := og_eq rfl (by rw [dec_int, Bool.beq_eq_decide_eq]; exact h)
theorem og_ne_int (h : R (.bl (!decide (i = j))) F l) : OG X ts (compareOp .NotEq) (.int i) (.int j) F l R := og_ne rfl (by rw [dec_int, Bool.beq_eq_decide_eq]; exact h)
/-- == of data -/
theorem og_eqD {x y : V} {d e : PyData} (hu : X.A.units + 64 < cLine) (hd : Dt X.K F l x d) (he : Dt X.K F l y e) (h1 : SeqAt.shaped d = true) (h2 : SeqAt.shaped e = true) (h : R (.bl (PyData.eqv d e)) F l) : OG X ts (compareOp .Eq) x y F l R :=
  .of (op_eqD hu) fun H S => ⟨d, e, hd.dp S, he.dp S, h1, h2, fin S h⟩
theorem og_neD {x y : V} {d e : PyData} (hu : X.A.units + 64 < cLine) (hd : Dt X.K F l x d) (he : Dt X.K F l y e) (h1 : SeqAt.shaped d = true) (h2 : SeqAt.shaped e = true) (h : R (.bl (!PyData.eqv d e)) F l) : OG X ts (compareOp .NotEq) x y F l R :=
  .of (op_neD hu) fun H S => ⟨d, e, hd.dp S, he.dp S, h1, h2, fin S h⟩
theorem og_isN {x : V} (h : R (.bl (decide (x = .non))) F l) : OG X ts (compareOp .Is) x .non F l R := .of op_isN fun H S => ⟨rfl, fin S h⟩
theorem og_notN {x : V} (h : R (.bl (!decide (x = .non))) F l) : OG X ts (compareOp .IsNot) x .non F l R := .of op_notN fun H S => ⟨rfl, fin S h⟩
/-- list + list, both of the ledger or known -/
def IsLm (F : Hp) (l : Led) (a : Addr) (xs : List V) : Prop := F a = some (.lst xs) ∨ (a, HO.lst xs) ∈ l
theorem IsLm.at_ {H : Hp} (h : IsLm F l a xs) (S : SH ts F H l) : H a = some (.lst xs) := by
  rcases h with h | h
  · exact S.ext _ _ h
  · exact (S.at_ _ h).1
theorem IsLm.isL {K : PySem.W.Frag} (h : IsLm F l a xs) : IsL K F l a xs := by
  rcases h with h | h
  · exact .inl (.inl (.inl h))
  · exact .inr h
theorem og_add_lst (h1 : IsLm F l a xs) (h2 : IsLm F l b ys) (hz : xs.length + ys.length ≤ sizeLine) (h : ∀ p, R (.ref p) F ((p, .lst (xs ++ ys)) :: l)) : OG X ts (binaryOp .Add) (.ref a) (.ref b) F l R :=
  .of op_cat fun H S => ⟨a, b, xs, ys, rfl, rfl, h1.at_ S, h2.at_ S, hz, fin_new S (fun _ z => nomatch z) h⟩
theorem og_add_str {x y : Str} (hz : x.length + y.length ≤ sizeLine) (h : R (.str (x ++ y)) F l) : OG X ts (binaryOp .Add) (.str x) (.str y) F l R :=
  .of op_add_str fun H S => ⟨x, y, rfl, rfl, hz, fin S h⟩
theorem og_rep (h1 : IsLm F l a xs) (h2 : -(2 ^ 63) ≤ i) (h3 : i < 2 ^ 63) (hz : xs.length * i.toNat ≤ sizeLine) (h : ∀ p, R (.ref p) F ((p, .lst (List.replicate i.toNat xs).flatten) :: l)) : OG X ts (binaryOp .Mult) (.ref a) (.int i) F l R :=
  .of op_rep fun H S => ⟨a, i, xs, rfl, rfl, h1.at_ S, h2, h3, hz, fin_new S (fun _ z => nomatch z) h⟩
end
end TL

namespace TL
open PySem PySem.Spec L2

section
variable {X : Cx} {ts : Ts} {σ : L2.St} {F : Hp} {l : Led} {R : RV} {RT : RB} {a b c e : Expr} {es rest : List Expr} {pos : Pos} {D : EndsL} {st : Stmt} {sts : List Stmt} {i : Nat} {x : Str}
/-! ### truth, tests -/
def TruL (K : PySem.W.Frag) (v : V) (F : Hp) (l : Led) (k : Bool) : Prop := ∀ H : Hp, (∀ b o, F b = some o → H b = some o) → (∀ p ∈ l, H p.1 = some p.2) → TruV K v H k
theorem TruL.at_ {K : PySem.W.Frag} {v : V} {k : Bool} {H : Hp} (h : TruL K v F l k) (S : SH ts F H l) : TruV K v H k := h H S.ext fun p hp => (S.at_ p hp).1
theorem tru_bl {K : PySem.W.Frag} {k : Bool} : TruL K (.bl k) F l k := fun _ _ _ => rfl
theorem tru_non {K : PySem.W.Frag} : TruL K .non F l false := fun _ _ _ => rfl
theorem tru_int {K : PySem.W.Frag} {n : Int} : TruL K (.int n) F l (n != 0) := fun _ _ _ => rfl
theorem et_of {t : TT} (h : PT X a t) (q : ∀ H, SH ts F H l → t σ H (QR ts RT)) : ET X ts a σ F l RT := fun H S => PT.toW h (q H S)
theorem et_mono {R' : RB} (h : ET X ts a σ F l RT) (k : ∀ v F' l', RT v F' l' → R' v F' l') : ET X ts a σ F l R' := fun H S => (h H S).mono fun v H' ⟨F', l', S', r⟩ => ⟨F', l', S', k v F' l' r⟩
/-- a test that is a value's truth -/
theorem et_val (he : ∀ whole, isTrue a X.env whole = (do let v ← whole; standAt a.pos; holding [v] (truthy v))) (h : EX X ts a σ F l fun v F1 l1 => ∃ k, TruL X.K v F1 l1 k ∧ RT k F1 l1) : ET X ts a σ F l RT :=
  et_of (pt_truth (pe_W X a) he) fun H S => (h H S).mono fun v H1 ⟨F1, l1, S1, k, q1, q2⟩ => ⟨k, q1.at_ S1, F1, l1, S1, q2⟩
theorem et_cmp {op : CmpOp} (hm : behindInMarks op b = false) (h : EX X ts a σ F l fun x F1 l1 => EX X ts b σ F1 l1 fun y F2 l2 => OG X ts (compareOp op) x y F2 l2 fun v F3 l3 => ∃ k, v = .bl k ∧ RT k F3 l3) : ET X ts (.Compare a [op] [b] pos) σ F l RT :=
  et_of (pt_cmpR opr_W (pe_W X a) (pe_W X b) hm) fun H S => (h H S).mono fun x H1 ⟨F1, l1, S1, h1⟩ => (h1 H1 S1).mono fun y H2 ⟨F2, l2, S2, h2⟩ pins s σ v u I rx ry => thn (h2 H2 S2 pins s σ v u I rx ry) fun _ _ ⟨w, H3, I3, r3, F3, l3, S3, k, e, q⟩ => ⟨w, H3, I3, r3, k, e, F3, l3, S3, q⟩
theorem et_not (h : ET X ts a σ F l fun k F1 l1 => RT (!k) F1 l1) : ET X ts (.UnaryOp .Not a pos) σ F l RT :=
  et_of (pt_not (pt_W X a)) fun H S => (h H S)
theorem et_bool {op : BoolOp} (h : EW X ts (.BoolOp op es pos) σ F l RT) : ET X ts (.BoolOp op es pos) σ F l RT :=
  et_of (PW.pt (pw_W X _)) fun H S => h H S
theorem ew_of {t : TT} (h : PW X a t) (q : ∀ H, SH ts F H l → t σ H (QR ts RT)) : EW X ts a σ F l RT := fun H S => PW.toW h (q H S)
theorem ew_and1 (h : ET X ts a σ F l RT) : EW X ts (.BoolOp .And [a] pos) σ F l RT := ew_of (pw_and1 (pt_W X a)) fun H S => h H S
theorem ew_or1 (h : ET X ts a σ F l RT) : EW X ts (.BoolOp .Or [a] pos) σ F l RT := ew_of (pw_or1 (pt_W X a)) fun H S => h H S
theorem ew_and (h : ET X ts a σ F l fun k F1 l1 => (k = true → EW X ts (.BoolOp .And (b :: rest) pos) σ F1 l1 RT) ∧ (k = false → RT false F1 l1)) : EW X ts (.BoolOp .And (a :: b :: rest) pos) σ F l RT :=
  ew_of (pw_and (pt_W X a) (pw_W X _)) fun H S => (h H S).mono fun k H1 ⟨F1, l1, S1, q1, q2⟩ => by
    cases k with
    | true => exact q1 rfl H1 S1
    | false => exact ⟨F1, l1, S1, q2 rfl⟩
theorem ew_or (h : ET X ts a σ F l fun k F1 l1 => (k = false → EW X ts (.BoolOp .Or (b :: rest) pos) σ F1 l1 RT) ∧ (k = true → RT true F1 l1)) : EW X ts (.BoolOp .Or (a :: b :: rest) pos) σ F l RT :=
  ew_of (pw_or (pt_W X a) (pw_W X _)) fun H S => (h H S).mono fun k H1 ⟨F1, l1, S1, q1, q2⟩ => by
    cases k with
    | false => exact q1 rfl H1 S1
    | true => exact ⟨F1, l1, S1, q2 rfl⟩
/-! ### and, or, not, if as values -/
theorem ex_and1 {op} (h : EX X ts a σ F l R) : EX X ts (.BoolOp op [a] pos) σ F l R := ex_of (pe_one (pe_W X a)) fun H S => h H S
theorem ex_and (h : EX X ts a σ F l fun v F1 l1 => ∃ k, TruL X.K v F1 l1 k ∧ (k = true → EX X ts (.BoolOp .And (b :: rest) pos) σ F1 l1 R) ∧ (k = false → R v F1 l1)) : EX X ts (.BoolOp .And (a :: b :: rest) pos) σ F l R :=
  ex_of (pe_andT (pe_W X a) (pe_W X _)) fun H S => (h H S).mono fun v H1 ⟨F1, l1, S1, k, q0, q1, q2⟩ => ⟨k, q0.at_ S1, by
    cases k with
    | true => exact q1 rfl H1 S1
    | false => exact ⟨F1, l1, S1, q2 rfl⟩⟩
theorem ex_or (h : EX X ts a σ F l fun v F1 l1 => ∃ k, TruL X.K v F1 l1 k ∧ (k = false → EX X ts (.BoolOp .Or (b :: rest) pos) σ F1 l1 R) ∧ (k = true → R v F1 l1)) : EX X ts (.BoolOp .Or (a :: b :: rest) pos) σ F l R :=
  ex_of (pe_orT (pe_W X a) (pe_W X _)) fun H S => (h H S).mono fun v H1 ⟨F1, l1, S1, k, q0, q1, q2⟩ => ⟨k, q0.at_ S1, by
    cases k with
    | false => exact q1 rfl H1 S1
    | true => exact ⟨F1, l1, S1, q2 rfl⟩⟩
theorem ex_not (h : EX X ts a σ F l fun v F1 l1 => ∃ k, TruL X.K v F1 l1 k ∧ R (.bl (!k)) F1 l1) : EX X ts (.UnaryOp .Not a pos) σ F l R :=
  ex_of (pe_notT (pe_W X a)) fun H S => (h H S).mono fun v H1 ⟨F1, l1, S1, k, q0, q1⟩ => ⟨k, q0.at_ S1, F1, l1, S1, q1⟩
theorem ex_if (h : ET X ts c σ F l fun k F1 l1 => (k = true → EX X ts a σ F1 l1 R) ∧ (k = false → EX X ts b σ F1 l1 R)) : EX X ts (.IfExp c a b pos) σ F l R :=
  ex_of (pe_ifExp (pt_W X c) (pe_W X a) (pe_W X b)) fun H S => (h H S).mono fun k H1 ⟨F1, l1, S1, q1, q2⟩ => by
    cases k with
    | true => exact q1 rfl H1 S1
    | false => exact q2 rfl H1 S1
/-! ### lists of expressions -/
variable {RA : RL}
theorem ea_of {t : TA} (h : PA X es t) (q : ∀ H, SH ts F H l → t σ H (QR ts RA)) : EA X ts es σ F l RA := fun H S => PA.toW h (q H S)
theorem ea_nil (h : RA [] F l) : EA X ts [] σ F l RA := ea_of pa_nil fun H S => ⟨F, l, S, h⟩
theorem ea_cons (hs : starEach (e :: es) X.env = (false, eval e X.env) :: starEach es X.env) (h : EX X ts e σ F l fun v F1 l1 => EA X ts es σ F1 l1 fun vs F2 l2 => RA (v :: vs) F2 l2) : EA X ts (e :: es) σ F l RA :=
  ea_of (pa_cons (pe_W X e) (pa_W X es) hs) fun H S => (h H S).mono fun v H1 ⟨F1, l1, S1, q1⟩ => (q1 H1 S1)
theorem ex_list (h : EA X ts es σ F l fun vs F1 l1 => vs.length ≤ sizeLine ∧ ∀ p, R (.ref p) F1 ((p, .lst vs) :: l1)) : EX X ts (.List es pos) σ F l R :=
  ex_of (pe_lst (pa_W X es)) fun H S => (h H S).mono fun v H1 ⟨F1, l1, S1, q1, q2⟩ => ⟨q1, fun p hp => ⟨F1, _, S1.alloc hp (fun _ z => nomatch z), q2 p⟩⟩
theorem ex_tuple {n} (h : EA X ts es σ F l fun vs F1 l1 => vs.length ≤ sizeLine ∧ ∀ p, R (.ref p) F1 ((p, .tup vs) :: l1)) : EX X ts (.Tuple es n pos) σ F l R :=
  ex_of (pe_tup (pa_W X es)) fun H S => (h H S).mono fun v H1 ⟨F1, l1, S1, q1, q2⟩ => ⟨q1, fun p hp => ⟨F1, _, S1.alloc hp (fun _ z => nomatch z), q2 p⟩⟩
/-! ### calls -/
theorem ex_callB {id : String} {p : Pos} (hg : Gl X x) (hm : X.mg x = none) (hv : bootBuiltins x = some (.builtin id)) (hn : x ≠ "__name__") (hdb : (x == ("__debug__" : Str)) = false) (he : starEach (e :: es) X.env = (false, eval e X.env) :: starEach es X.env) (hpl : (backTo pos (starEach es X.env)).any (·.1) = false)
    (h : EA X ts (e :: es) σ F l fun vs F1 l1 => CG X ts (.builtin id) vs F1 l1 R) : EX X ts (.Call (.Name x p) (e :: es) [] pos) σ F l R :=
  ex_of (pe_callB callr_W hg hm hv (pa_W X (e :: es)) hn hdb he hpl) fun H S => (h H S).mono fun vs H1 ⟨F1, l1, S1, q1⟩ => q1 H1 S1
theorem ex_callTy {T : String} {p : Pos} (hg : Gl X x) (hm : X.mg x = none) (hv : bootBuiltins x = some (.type T)) (hn : x ≠ "__name__") (hdb : (x == ("__debug__" : Str)) = false) (he : starEach (e :: es) X.env = (false, eval e X.env) :: starEach es X.env) (hpl : (backTo pos (starEach es X.env)).any (·.1) = false)
    (h : EA X ts (e :: es) σ F l fun vs F1 l1 => CG X ts (.type T) vs F1 l1 R) : EX X ts (.Call (.Name x p) (e :: es) [] pos) σ F l R :=
  ex_of (pe_callTy callr_W hg hm hv (pa_W X (e :: es)) hn hdb he hpl) fun H S => (h H S).mono fun vs H1 ⟨F1, l1, S1, q1⟩ => q1 H1 S1
/-! ### subscripts -/
def GW (X : Cx) (x y : V) (H : Hp) (Q : VK) : Prop :=
  ∀ (value slice : Expr) (pins : List (Addr × Obj)) (s : Shared) (σ : L2.St) (v u : Value), Inv X pins σ H s → RelV x v → RelV y u → subscripted slice false v u = operate [v, u] (getItem v u) → wpAny (model X.prog X.w) X.A (PyProof.Rows.subscriptTail value slice v u) (EP X pins σ Q) X.xe s
def GG (X : Cx) (ts : Ts) (x y : V) (F : Hp) (l : Led) (R : RV) : Prop := ∀ H, SH ts F H l → GW X x y H (QR ts R)
theorem ixr_W : IxR X (GW X) := fun value slice pins s σ H x y v u Q I rx ry h hs => h value slice pins s σ v u I rx ry hs
theorem GG.of {r : R2} {x y : V} (ho : IxR X r) (h : ∀ H, SH ts F H l → r x y H (QR ts R)) : GG X ts x y F l R := fun H S value slice pins s σ v u I rx ry hs => ho value slice pins s σ H x y v u _ I rx ry (h H S) hs
theorem ex_ix (hs : PlainIx b) (h : EX X ts a σ F l fun x F1 l1 => EX X ts b σ F1 l1 fun y F2 l2 => GG X ts x y F2 l2 R) : EX X ts (.Subscript a b pos) σ F l R :=
  ex_of (pe_ix ixr_W (pe_W X a) (pe_W X b) hs) fun H S => (h H S).mono fun x H1 ⟨F1, l1, S1, h1⟩ => (h1 H1 S1).mono fun y H2 ⟨F2, l2, S2, h2⟩ => h2 H2 S2
theorem gg_list {p : Addr} {xs : List V} {j : Int} {v : V} (h1 : IsL X.K F l p xs) (h2 : atI xs j = some v) (h : R v F l) : GG X ts (.ref p) (.int j) F l R := .of ix_list fun H S => ⟨p, xs, j, v, rfl, rfl, h1.sq S, h2, fin S h⟩
theorem gg_tup {p : Addr} {xs : List V} {j : Int} {v : V} (h1 : IsT X.K F l p xs) (h2 : atI xs j = some v) (h : R v F l) : GG X ts (.ref p) (.int j) F l R := .of ix_tup fun H S => ⟨p, xs, j, v, rfl, rfl, h1.sq S, h2, fin S h⟩
theorem gg_str {z : Str} {j : Int} {c : Nat} (h1 : z.length ≤ sizeLine) (h2 : atI z.cps.toList j = some c) (h : R (.str ⟨#[c]⟩) F l) : GG X ts (.str z) (.int j) F l R := .of ix_str fun H S => ⟨z, j, c, rfl, rfl, h1, h2, fin S h⟩
def EO (X : Cx) (ts : Ts) (e : Option Expr) (σ : L2.St) (F : Hp) (l : Led) (R : Option Int → Hp → Led → Prop) : Prop := match e with
  | none => R none F l
  | some e => EX X ts e σ F l fun v F1 l1 => ∃ i, v = .int i ∧ R (some i) F1 l1
theorem eo_some {e : Expr} {RO : Option Int → Hp → Led → Prop} (h : EX X ts e σ F l fun v F1 l1 => ∃ i, v = .int i ∧ RO (some i) F1 l1) : EO X ts (some e) σ F l RO := h
theorem eo_none {RO : Option Int → Hp → Led → Prop} (h : RO none F l) : EO X ts none σ F l RO := h
def tWO (X : Cx) : Option Expr → TO
  | none => tNoPart
  | some e => tPart (tW X e)
theorem po_W (e : Option Expr) : PO X e (tWO X e) := by
  cases e with
  | none => exact po_none
  | some e => exact po_some (pe_W X e)
theorem EO.run {e : Option Expr} {RO : Option Int → Hp → Led → Prop} (h : EO X ts e σ F l RO) {H : Hp} (S : SH ts F H l) {Q : Option Int → Hp → Prop} (k : ∀ o H1 F1 l1, SH ts F1 H1 l1 → RO o F1 l1 → Q o H1) : tWO X e σ H Q := by
  cases e with
  | none => exact k _ _ _ _ S h
  | some e => exact (h H S).mono fun v H1 ⟨F1, l1, S1, i, e1, q⟩ => ⟨i, e1, k _ _ _ _ S1 q⟩
def SW (X : Cx) (x : V) (lo hi : Option Int) (H : Hp) (Q : VK) : Prop := ∀ r : Unit, (∃ r' : V → Option Int → Option Int → Hp → VK → Prop, SlR X r' ∧ r' x lo hi H Q)
theorem ex_slice {lo hi : Option Expr} {p2 : Pos} (h : EX X ts a σ F l fun x F1 l1 => EO X ts lo σ F1 l1 fun o F2 l2 => EO X ts hi σ F2 l2 fun u F3 l3 => ∃ (p : Addr) (xs : List V), x = .ref p ∧ IsL X.K F3 l3 p xs ∧ ∀ q, R (.ref q) F3 ((q, .lst (cutV xs o u)) :: l3)) : EX X ts (.Subscript a (.Slice lo hi none p2) pos) σ F l R :=
  ex_of (pe_slice sl_list (pe_W X a) (po_W lo) (po_W hi)) fun H S => (h H S).mono fun x H1 ⟨F1, l1, S1, h1⟩ => h1.run S1 fun o H2 F2 l2 S2 h2 => h2.run S2 fun u H3 F3 l3 S3 ⟨p, xs, e1, h3, q⟩ => ⟨p, xs, e1, h3.sq S3, fun z hz => ⟨F3, _, S3.alloc hz (fun _ z => nomatch z), q z⟩⟩
/-! ### statements -/
theorem sx_of {t : TS} (h : PS X st t) (q : ∀ H, SH ts F H l → t (D.E ts) σ H) : SX X ts st σ F l D := fun H S => PS.toW h (q H S)
theorem bx_of {t : TS} (h : PSs X sts t) (q : ∀ H, SH ts F H l → t (D.E ts) σ H) : BX X ts sts σ F l D := fun H S => PSs.toW h (q H S)
theorem bx_nil (h : D.nx σ F l) : BX X ts [] σ F l D := bx_of pss_nil fun H S => ⟨F, l, S, h⟩
theorem bx_cons (h : SX X ts st σ F l { D with nx := fun σ1 F1 l1 => BX X ts sts σ1 F1 l1 D }) : BX X ts (st :: sts) σ F l D :=
  bx_of (pss_cons (ps_W X st) (pss_W X sts)) fun H S => (h H S).mono ⟨fun σ1 H1 ⟨F1, l1, S1, q⟩ => q H1 S1, fun _ _ q => q, fun _ _ q => q, fun _ _ q => q⟩
theorem bx_mono {D' : EndsL} (h : BX X ts sts σ F l D) (h1 : ∀ σ F l, D.nx σ F l → D'.nx σ F l) (h2 : ∀ σ F l, D.rt σ F l → D'.rt σ F l) (h3 : ∀ σ F l, D.bk σ F l → D'.bk σ F l) (h4 : ∀ σ F l, D.ct σ F l → D'.ct σ F l) : BX X ts sts σ F l D' :=
  fun H S => (h H S).mono ⟨fun _ _ ⟨F1, l1, S1, q⟩ => ⟨F1, l1, S1, h1 _ _ _ q⟩, fun _ _ ⟨F1, l1, S1, q⟩ => ⟨F1, l1, S1, h2 _ _ _ q⟩, fun _ _ ⟨F1, l1, S1, q⟩ => ⟨F1, l1, S1, h3 _ _ _ q⟩, fun _ _ ⟨F1, l1, S1, q⟩ => ⟨F1, l1, S1, h4 _ _ _ q⟩⟩
theorem sx_set {pos' : Pos} (hN : X.N.Nodup) (hi : X.N[i]? = some x) (hx : Loc X.env.scope x) (hs : swapsWith e (some (.Name x pos')) pos.line X.env = pure false) (hf : X.fn x = true ∨ X.env.scope.names.lookup x = some .local)
    (h : EX X ts e σ F l fun v F1 l1 => D.nx (σ.set i (some v)) F1 l1) : SX X ts (.Assign [.Name x pos'] e pos) σ F l D :=
  sx_of (ps_set hN hi hx (pe_W X e) hs hf) fun H S => (h H S)
theorem sx_ret (h : EX X ts e σ F l D.rt) : SX X ts (.Return (some e) pos) σ F l D := sx_of (ps_ret (pe_W X e)) fun H S => h H S
theorem sx_retN (h : D.rt .non F l) : SX X ts (.Return none pos) σ F l D := sx_of ps_retN fun H S => ⟨F, l, S, h⟩
theorem sx_pass (h : D.nx σ F l) : SX X ts (.Pass pos) σ F l D := sx_of ps_pass fun H S => ⟨F, l, S, h⟩
theorem sx_expr (hs : swapsWith e none pos.line X.env = pure false) (h : EX X ts e σ F l fun _ F1 l1 => D.nx σ F1 l1) : SX X ts (.Expr e pos) σ F l D :=
  sx_of (ps_expr (pe_W X e) hs) fun H S => (h H S)
theorem sx_if {p q : List Stmt} (h : ET X ts c σ F l fun k F1 l1 => (k = true → BX X ts p σ F1 l1 D) ∧ (k = false → BX X ts q σ F1 l1 D)) : SX X ts (.If c p q pos) σ F l D :=
  sx_of (ps_if (pt_W X c) (pss_W X p) (pss_W X q)) fun H S => (h H S).mono fun k H1 ⟨F1, l1, S1, q1, q2⟩ => by
    cases k with
    | true => exact q1 rfl H1 S1
    | false => exact q2 rfl H1 S1
theorem sx_par {j : Nat} {y : Str} {px py pt : Pos} {kt k2 pt2} (hc : X.calm = true) (hN : X.N.Nodup) (hi : X.N[i]? = some x) (hj : X.N[j]? = some y) (hij : i ≠ j)
    (hx : X.env.scope.names.lookup x = some .local) (hy : X.env.scope.names.lookup y = some .local)
    (hw : swappedStores [.Tuple [.Name x px, .Name y py] kt pt] (.Tuple [a, b] k2 pt2) X.env = pure (some [x, y]))
    (hs : swapsWithSole [.Tuple [.Name x px, .Name y py] kt pt] (.Tuple [a, b] k2 pt2) pos.line X.env = pure false) (h : EX X ts a σ F l fun v F1 l1 => EX X ts b σ F1 l1 fun w F2 l2 => D.nx ((σ.set i (some v)).set j (some w)) F2 l2)
    (h1 : starEach (a :: [b]) X.env = (false, eval a X.env) :: starEach [b] X.env) (h2 : starEach (b :: []) X.env = (false, eval b X.env) :: starEach [] X.env) :
    SX X ts (.Assign [.Tuple [.Name x px, .Name y py] kt pt] (.Tuple [a, b] k2 pt2) pos) σ F l D :=
  sx_of (ps_par hc hN hi hj hij hx hy (pa_cons (pe_W X a) (pa_cons (pe_W X b) pa_nil h2) h1) hw hs) fun H S => (h H S).mono fun v H1 ⟨F1, l1, S1, q1⟩ => (q1 H1 S1).mono fun w H2 ⟨F2, l2, S2, q2⟩ => ⟨v, w, rfl, F2, l2, S2, q2⟩
/-! ### loops -/
theorem tWB_up {body : List Stmt} {H : Hp} {P : RS} (h : tWB X body (EndsL.E ts { D with nx := Up ts P, ct := Up ts P, bk := D.nx }) σ H) : tWB X body { D.E ts with nx := fun σ H => ∃ F l, SH ts F H l ∧ P σ F l, ct := fun σ H => ∃ F l, SH ts F H l ∧ P σ F l, bk := (D.E ts).nx } σ H :=
  h.mono ⟨fun _ _ q => QR.up q, fun _ _ q => q, fun _ _ q => q, fun _ _ q => QR.up q⟩
/-- the ledger is told otherwise -/
theorem bx_ent {F' : Hp} {l' : Led} (e : Ent ts F l F' l') (h : BX X ts sts σ F' l' D) : BX X ts sts σ F l D := fun H S => h H (e H S)
theorem ex_ent {F' : Hp} {l' : Led} (e : Ent ts F l F' l') (h : EX X ts a σ F' l' R) : EX X ts a σ F l R := fun H S => h H (e H S)
theorem et_ent {F' : Hp} {l' : Led} (e : Ent ts F l F' l') (h : ET X ts a σ F' l' RT) : ET X ts a σ F l RT := fun H S => h H (e H S)
theorem sx_for_list {tp : Pos} {iter : Expr} {body : List Stmt} (hp : PassesOwn (model X.prog X.w) X.A X.env X.xe) (hc : X.calm = true) (hN : X.N.Nodup) (hi : X.N[i]? = some x) (hx : Loc X.env.scope x) (hf : X.fn x = true ∨ X.env.scope.names.lookup x = some .local)
    (hs : ∀ y, foldedSetIterable iter X.env y = pure y)
    (h : EX X ts iter σ F l fun v F1 l1 => ∃ (a : Addr) (xs : List V) (Pv : Nat → RS), v = .ref a ∧ Pv 0 σ F1 l1 ∧ (∀ j σ F l, j ≤ xs.length → Pv j σ F l → IsL X.K F l a xs) ∧
      (∀ j z σ F l, xs[j]? = some z → Pv j σ F l → BX X ts body (σ.set i (some z)) F l { D with nx := Up ts (Pv (j + 1)), ct := Up ts (Pv (j + 1)), bk := D.nx }) ∧ (∀ σ F l, Pv xs.length σ F l → D.nx σ F l)) :
    SX X ts (.For (.Name x tp) iter body [] pos) σ F l D :=
  sx_of (ps_for hp hc (pi_list (pe_W X iter)) (pg_name (i := i) hN hi hx hf) (pss_W X body) hs) fun H S => (h H S).mono fun v H1 ⟨F1, l1, S1, a, xs, Pv, e, p0, hl, step, hend⟩ =>
    ⟨a, e, ⟨xs, (hl 0 σ F1 l1 (Nat.zero_le _) p0).sq S1⟩, for_list (fun j σ H => ∃ F l, SH ts F H l ∧ Pv j σ F l) ⟨F1, l1, S1, p0⟩ (fun j σ H hj ⟨F, l, S, p⟩ => (hl j σ F l hj p).sq S)
      (fun j z σ H hz ⟨F, l, S, p⟩ => tWB_up (step j z σ F l hz p H S)) fun σ H ⟨F, l, S, p⟩ => ⟨F, l, S, hend σ F l p⟩⟩
theorem sx_for_range1 {tp p2 p3 : Pos} {body : List Stmt} (hp : PassesOwn (model X.prog X.w) X.A X.env X.xe) (hc : X.calm = true) (hN : X.N.Nodup) (hi : X.N[i]? = some x) (hx : Loc X.env.scope x) (hf : X.fn x = true ∨ X.env.scope.names.lookup x = some .local)
    (hg : Gl X "range") (hm : X.mg "range" = none) (hse : starEach [a] X.env = [(false, eval a X.env)])
    (hs : ∀ y, foldedSetIterable (.Call (.Name "range" p2) [a] [] p3) X.env y = pure y)
    (h : EX X ts a σ F l fun v F1 l1 => ∃ (n : Int) (Pv : Nat → RS), v = .int n ∧ -(2 ^ 62) ≤ n ∧ n < 2 ^ 62 ∧ Pv 0 σ F1 l1 ∧
      (∀ (j : Nat) σ F l, j < n.toNat → Pv j σ F l → BX X ts body (σ.set i (some (.int j))) F l { D with nx := Up ts (Pv (j + 1)), ct := Up ts (Pv (j + 1)), bk := D.nx }) ∧ (∀ σ F l, Pv n.toNat σ F l → D.nx σ F l)) :
    SX X ts (.For (.Name x tp) (.Call (.Name "range" p2) [a] [] p3) body [] pos) σ F l D :=
  sx_of (ps_for hp hc (pi_range1 hg hm (pa_cons (pe_W X a) pa_nil hse) hse) (pg_name (i := i) hN hi hx hf) (pss_W X body) hs) fun H S => (h H S).mono fun v H1 ⟨F1, l1, S1, n, Pv, e, n1, n2, p0, step, hend⟩ => by
    subst e
    refine ⟨n, rfl, n1, n2, for_range (fun j σ H => ∃ F l, SH ts F H l ∧ Pv j σ F l) ⟨F1, l1, S1, p0⟩ (fun j σ H hj ⟨F, l, S, p⟩ => ?_) fun σ H ⟨F, l, S, p⟩ => ⟨F, l, S, hend σ F l p⟩⟩
    have q := tWB_up (step j σ F l hj p H S)
    rw [show (0 : Int) + (j : Int) = (j : Int) by omega]
    exact q
theorem sx_for_range2 {tp p2 p3 : Pos} {body : List Stmt} (hp : PassesOwn (model X.prog X.w) X.A X.env X.xe) (hc : X.calm = true) (hN : X.N.Nodup) (hi : X.N[i]? = some x) (hx : Loc X.env.scope x) (hf : X.fn x = true ∨ X.env.scope.names.lookup x = some .local)
    (hg : Gl X "range") (hm : X.mg "range" = none) (hse : starEach [a, b] X.env = [(false, eval a X.env), (false, eval b X.env)]) (hse2 : starEach [b] X.env = [(false, eval b X.env)])
    (hs : ∀ y, foldedSetIterable (.Call (.Name "range" p2) [a, b] [] p3) X.env y = pure y)
    (h : EX X ts a σ F l fun v F1 l1 => EX X ts b σ F1 l1 fun u F2 l2 => ∃ (m n : Int) (Pv : Nat → RS), v = .int m ∧ u = .int n ∧ (-(2 ^ 62) ≤ m ∧ m < 2 ^ 62 ∧ -(2 ^ 62) ≤ n ∧ n < 2 ^ 62) ∧ Pv 0 σ F2 l2 ∧
      (∀ (j : Nat) σ F l, j < (n - m).toNat → Pv j σ F l → BX X ts body (σ.set i (some (.int (m + j)))) F l { D with nx := Up ts (Pv (j + 1)), ct := Up ts (Pv (j + 1)), bk := D.nx }) ∧ (∀ σ F l, Pv (n - m).toNat σ F l → D.nx σ F l)) :
    SX X ts (.For (.Name x tp) (.Call (.Name "range" p2) [a, b] [] p3) body [] pos) σ F l D :=
  sx_of (ps_for hp hc (pi_range2 hg hm (pa_cons (pe_W X a) (pa_cons (pe_W X b) pa_nil hse2) (by rw [hse, hse2])) hse hse2) (pg_name (i := i) hN hi hx hf) (pss_W X body) hs) fun H S => (h H S).mono fun v H1 ⟨F1, l1, S1, q⟩ => (q H1 S1).mono fun u H2 ⟨F2, l2, S2, m, n, Pv, e, e2, nb, p0, step, hend⟩ => by
    subst e; subst e2
    exact ⟨m, n, rfl, nb, for_range (fun j σ H => ∃ F l, SH ts F H l ∧ Pv j σ F l) ⟨F2, l2, S2, p0⟩ (fun j σ H hj ⟨F, l, S, p⟩ => tWB_up (step j σ F l hj p H S)) fun σ H ⟨F, l, S, p⟩ => ⟨F, l, S, hend σ F l p⟩⟩
theorem sx_while {body : List Stmt} (hp : PassesOwn (model X.prog X.w) X.A X.env X.xe) (Pv : Nat → RS) (h0 : ∃ m, Pv m σ F l) (step : ∀ m σ F l, Pv m σ F l → ET X ts c σ F l fun k F1 l1 => (k = true → BX X ts body σ F1 l1 { D with nx := Up ts fun σ F l => ∃ m', m' < m ∧ Pv m' σ F l, ct := Up ts fun σ F l => ∃ m', m' < m ∧ Pv m' σ F l, bk := D.nx }) ∧ (k = false → D.nx σ F1 l1)) :
    SX X ts (.While c body [] pos) σ F l D :=
  sx_of (ps_while hp (pt_W X c) (pss_W X body)) fun H S => ⟨fun m σ H => ∃ F l, SH ts F H l ∧ Pv m σ F l, let ⟨m, p⟩ := h0; ⟨m, F, l, S, p⟩, fun m σ H ⟨F, l, S, p⟩ => (step m σ F l p H S).mono fun k H1 ⟨F1, l1, S1, q1, q2⟩ => by
    cases k with
    | true =>
      refine ⟨fun σ H => ∃ F l, SH ts F H l ∧ ∃ m', m' < m ∧ Pv m' σ F l, fun σ H ⟨F, l, S, m', h1, h2⟩ => ⟨m', h1, F, l, S, h2⟩, tWB_up (q1 rfl H1 S1)⟩
    | false => exact ⟨F1, l1, S1, q2 rfl⟩⟩
end
/-! ### defs where no repr is under way -/
structure RmG (k : Nat) (A : Around) : Prop where
  r : Room k A
  g : A.guards = some []
theorem RmG.mono {j k : Nat} {A : Around} (h : RmG k A) (q : j ≤ k) : RmG j A := ⟨h.r.mono q, h.g⟩
/-- what a def keeps, wherever it is called and no repr is under way -/
structure FnG (P : Program) (w : World) (K : PySem.W.Frag) (mg : Str → Option Value) (base : Heap) (CX : CXT) (k : Nat) (f : Addr) (fd : FuncData) (ps : List Str) (sp : Sp) : Prop where
  len : ∀ vs H Q E, sp vs H Q E → vs.length = ps.length
  run : ∀ (A : Around) (outer : List Env) (s : Shared) (H : Hp) (args : Args) (us : List Value) (vs : List V) (Q : VK) (E : XK),
    RmG k A → Env0 P w K mg base A outer s H → BindsTo s fd args (ps.zip us) → Vals vs us → sp vs H Q E →
    codeAny (model P w) A (.call (.ref f) args) (CR CX outer P w H s Q E) s
section
variable {P : Program} {w : World} {K : PySem.W.Frag} {mg : Str → Option Value} {base : Heap} {CX : CXT} {k : Nat} {f : Addr} {fd : FuncData} {ps : List Str} {sp : Sp}
theorem FnG.of (h : FnOk P w K mg base CX k f fd ps sp) : FnG P w K mg base CX k f fd ps sp where
  len := h.len
  run A outer s H args us vs Q E hr := h.run A outer s H args us vs Q E hr.r
variable {x qual : Str} {params : Arguments} {body : List Stmt} {scope : Scope} {dvs : List V} {kws : List (Str × V)} {N : List Str} {A : Around} {outer : List Env} {s : Shared} {H : Hp} {Q : VK} {E : XK} {cdv : Value}
/-- each parameter has a place: a slot of the frame or a cell -/
theorem FnScope.seat (S : FnScope N ps scope) {us : List Value} (at_ : Nat) (y : Str × Value) (m : y ∈ ps.zip us) :
    scope.names.lookup y.1 = some .local ∨ (scope.names.lookup y.1 = some .cell ∧ ((cellsFrom at_ scope.names []).lookup y.1).isSome = true) :=
  (S.par y.1 (List.of_mem_zip (show (y.1, y.2) ∈ ps.zip us from m)).1).imp id fun q => ⟨q, PySem.W.cellsFrom_some _ _ _ (.inl q)⟩
/-- the body's end is the call's answer -/
theorem answer {fl : Flow} {s' : Shared} (h : SP (cxOf CX P w K mg base N qual scope f cdv A outer s H E) [] { nx := fun _ H' => Q .non H', rt := Q } fl s') : (∃ u, fl = .ret u ∧ CE outer P w H s Q u s') ∨ (fl = .next ∧ CE outer P w H s Q .none s') :=
  match fl, h with
  | .ret u, ⟨v, _, H', J, rv, q⟩ => .inl ⟨u, rfl, v, H', J.os, J.bare, J.base, J.hok, rv, q⟩
  | .next, ⟨_, H', J, q⟩ => .inr ⟨rfl, .non, H', J.os, J.bare, J.base, J.hok, rfl, q⟩
  | .brk, ⟨_, _, _, q⟩ => q.elim
  | .cont, ⟨_, _, _, q⟩ => q.elim
/-- one call of a def of the text, at one place: by what its body does there -/
theorem call_once {args : Args} {us : List Value} {vs : List V} (Fd : FunD K x qual params body scope dvs kws f fd) (S : FnScope N ps scope) (room : Room (k + 1) A) (e0 : Env0 P w K mg base A outer s H) (hb : BindsTo s fd args (ps.zip us)) (r : Vals vs us) (l : vs.length = ps.length)
    (go : tWB (cxOf CX P w K mg base N qual scope f fd.code A outer s H E) body { nx := fun _ H' => Q .non H', rt := Q } (start N vs) H) : codeAny (model P w) A (.call (.ref f) args) (CR CX outer P w H s Q E) s := by
  obtain ⟨oc, od, dV, kV, doc, pm, an, cv, ct, osl, rfl, lk, hcd, _⟩ := Fd.ex
  have kin := e0.mod.kin.keeps fun b o e => (e0.bs b o e).1
  have lim := e0.mod.nolimit.keeps fun b o e => (e0.bs b o e).1
  refine PySem.codeAny_call_function room.depth (kin _ _ lk) rfl S.co S.gen rfl (PySem.W.codeRec_of kin hcd) (hb _ _ _ _ (PySem.wpAny_newFunctionEnv_cells S.kind (FnScope.seat S _) ?_))
  rintro env rfl s1 x
  refine ⟨lim.keeps x.toInCall.keep, PySem.codeAny_func (thn (go [] s1 (inv_start S room.hd e0 l r x)) fun fl s' z => ?_)⟩
  rcases answer z with ⟨u, rfl, q⟩ | ⟨rfl, q⟩ <;> exact q
/-- a def of the text by its body -/
theorem FnG.mk_ (Fd : FunD K x qual params body scope dvs kws f fd) (S : FnScope N ps scope) (len : ∀ vs H Q E, sp vs H Q E → vs.length = ps.length)
    (hb : ∀ (cdv : Value) (A : Around) (outer : List Env) (s : Shared) (H : Hp) (vs : List V) (Q : VK) (E : XK), fd.code = cdv → RmG k (A.deeper (PyProof.Rows.envOfC qual scope s.heap.objs.size f cdv)) → sp vs H Q E →
      tWB (cxOf CX P w K mg base N qual scope f cdv A outer s H E) body { nx := fun _ H' => Q .non H', rt := Q } (start N vs) H) : FnG P w K mg base CX (k + 1) f fd ps sp where
  len := len
  run A outer s H args us vs Q E hr e0 bt r want := call_once Fd S hr.r e0 bt r (len _ _ _ _ want) (hb _ A outer s H vs Q E rfl ⟨hr.r.deeper _, hr.g⟩ want)
end
section
variable {X : Cx} {pins : List (Addr × Obj)} {σ : L2.St} {H : Hp} {s : Shared} {CX : CXT} {k n : Nat} {f : Addr} {fd : FuncData} {ps ks : List Str} {sp : Sp} {E : XK} {Q : VK} {us ws : List Value} {vs zs : List V} {g : List Value → List Value → List Value} {gV : List V → List V → List V}
/-- the call itself, keywords and all -/
theorem run_G (F : FnG X.prog X.w X.K X.mg X.base CX k f fd ps sp) (hr : RmG k X.A) (hb : KBn X.K fd ps n ks g gV) (hx : PassesAt CX X σ E) (I : Inv X pins σ H s) (r : Vals vs us) (rz : Vals zs ws) (l1 : vs.length = n) (l2 : zs.length = ks.length)
    (h : sp (gV vs zs) H Q E) : wpAny (model X.prog X.w) X.A (call (.ref f) us (ks.zip ws)) (EP X pins σ Q) X.xe s :=
  wpAny_call (codeAny_mono (F.run _ _ _ _ _ _ _ Q E hr I.env0 (hb.to s us ws I.kIn ((Paired.length r).symm.trans l1) ((Paired.length rz).symm.trans l2)) (hb.rel r rz) h) fun res s' z =>
    match res, z with
    | .ok (.ret _), z => I.after z
    | .error e, z => hx pins H s e s' I z)
end
end TL

namespace TL
open PySem PySem.Spec L2

section
variable {X : Cx} {ts : Ts} {σ : L2.St} {F : Hp} {l : Led} {R : RV} {RT : RB} {a b c e o : Expr} {es rest : List Expr} {pos : Pos} {D : EndsL} {st : Stmt} {sts : List Stmt} {i : Nat} {x : Str}
/-! ### methods of built-in types -/
def TyL (K : PySem.W.Frag) (T : String) (v : V) (F : Hp) (l : Led) : Prop := ∀ H : Hp, (∀ b o, F b = some o → H b = some o) → (∀ p ∈ l, H p.1 = some p.2) → tyV K T v H
theorem ty_list {K : PySem.W.Frag} {p : Addr} {xs : List V} (h : IsL K F l p xs) : TyL K "list" (.ref p) F l := fun H e z => by
  refine .inl ⟨rfl, xs, ?_⟩
  rcases h with h | h
  · exact sq_mono e h
  · exact .inl (.inl (z _ h))
theorem ty_str {K : PySem.W.Frag} {z : Str} : TyL K "str" (.str z) F l := fun _ _ _ => rfl
theorem ty_int {K : PySem.W.Frag} {z : Int} : TyL K "int" (.int z) F l := fun _ _ _ => rfl
def MW (X : Cx) (id : String) (x : V) (xs : List V) (H : Hp) (Q : VK) : Prop := ∀ (pins : List (Addr × Obj)) (s : Shared) (σ : L2.St) (v : Value) (us : List Value), Inv X pins σ H s → RelV x v → Vals xs us → wpAny (model X.prog X.w) X.A (call (.builtin id) (v :: us)) (EP X pins σ Q) X.xe s
def MG (X : Cx) (ts : Ts) (id : String) (x : V) (xs : List V) (F : Hp) (l : Led) (R : RV) : Prop := ∀ H, SH ts F H l → MW X id x xs H (QR ts R)
theorem mtr_W {id : String} : MtR X id (MW X id) := fun pins s σ H x xs v us Q I rx rs h => h pins s σ v us I rx rs
theorem MG.of {id : String} {r : V → List V → Hp → VK → Prop} {x : V} {xs : List V} (ho : MtR X id r) (h : ∀ H, SH ts F H l → r x xs H (QR ts R)) : MG X ts id x xs F l R := fun H S pins s σ v us I rx rs => ho pins s σ H x xs v us _ I rx rs (h H S)
theorem ex_bm {T id : String} {name : Str} {apos : Pos} (pa : PlainAttrs T) (slot : Slot T name id) (hty : typeOf (.builtin id) = pure (.type "method_descriptor"))
    (hbase : attributeBase o name X.env (eval o X.env) = eval o X.env)
    (hfew : ((backTo pos (starEach (e :: es) X.env)).all (fun x => !x.1) && (backToKw pos (keywordEach [] X.env)).all (fun x => x.1.isSome)
      && decide ((e :: es).length + ([] : List Keyword).length + (if ([] : List Keyword).isEmpty then 0 else 1) < 30)) = true)
    (hline : (apos.endLine == pos.line) = true) (hs : starEach (e :: es) X.env = (false, eval e X.env) :: starEach es X.env) (hplain : (backTo pos (starEach es X.env)).any (·.1) = false)
    (h : EX X ts o σ F l fun x F1 l1 => TyL X.K T x F1 l1 ∧ EA X ts (e :: es) σ F1 l1 fun vs F2 l2 => MG X ts id x vs F2 l2 R) : EX X ts (.Call (.Attribute o name apos) (e :: es) [] pos) σ F l R :=
  ex_of (pe_bm pa slot hty mtr_W (pe_W X o) (pa_W X (e :: es)) hbase hfew hline hs hplain) fun H S => (h H S).mono fun x H1 ⟨F1, l1, S1, q0, q1⟩ => ⟨q0 H1 S1.ext (fun p hp => (S1.at_ p hp).1), (q1 H1 S1).mono fun vs H2 ⟨F2, l2, S2, q2⟩ => q2 H2 S2⟩
theorem ex_bm0 {T id : String} {name : Str} {apos : Pos} (pa : PlainAttrs T) (slot : Slot T name id) (hty : typeOf (.builtin id) = pure (.type "method_descriptor"))
    (hbase : attributeBase o name X.env (eval o X.env) = eval o X.env) (hline : (apos.endLine == pos.line) = true)
    (h : EX X ts o σ F l fun x F1 l1 => TyL X.K T x F1 l1 ∧ MG X ts id x [] F1 l1 R) : EX X ts (.Call (.Attribute o name apos) [] [] pos) σ F l R :=
  ex_of (pe_bm0 pa slot hty mtr_W (pe_W X o) hbase hline) fun H S => (h H S).mono fun x H1 ⟨F1, l1, S1, q0, q1⟩ => ⟨q0 H1 S1.ext (fun p hp => (S1.at_ p hp).1), q1 H1 S1⟩
theorem mg_append {p : Addr} {xs : List V} {v : V} (i : Nat) (h : l[i]? = some (p, .lst xs)) (hz : xs.length < sizeLine) (k : R .non F (l.set i (p, .lst (xs ++ [v])))) : MG X ts "list.append" (.ref p) [v] F l R :=
  .of mt_append fun H S => ⟨p, xs, v, rfl, rfl, (S.at_ _ (List.mem_of_getElem? h)).1, hz, F, _, S.write h (fun _ z => nomatch z) (fun _ z => nomatch z), k⟩
theorem mg_pop {p : Addr} {xs : List V} {y : V} (i : Nat) (h : l[i]? = some (p, .lst xs)) (hy : xs[xs.length - 1]? = some y) (k : R y F (l.set i (p, .lst xs.dropLast))) : MG X ts "list.pop" (.ref p) [] F l R :=
  .of mt_pop fun H S => ⟨p, xs, y, rfl, rfl, (S.at_ _ (List.mem_of_getElem? h)).1, hy, F, _, S.write h (fun _ z => nomatch z) (fun _ z => nomatch z), k⟩
theorem mg_index {p : Addr} {xs : List V} {y z : V} {j : Nat} (h : IsL X.K F l p xs) (f1 : flatV y = true) (f2 : xs.all flatV = true) (hj : xs[j]? = some z) (he : eqV z y = true) (hb : ∀ k u, k < j → xs[k]? = some u → eqV u y = false) (q : R (.int j) F l) : MG X ts "list.index" (.ref p) [y] F l R :=
  .of mt_index fun H S => ⟨p, xs, y, j, z, rfl, rfl, h.sq S, f1, f2, hj, he, by first | exact hb | exact fun k u h1 h2 => hb k u h1 h2, fin S q⟩
/-! ### built-in functions -/
theorem cg_len_seq {p : Addr} {xs : List V} (h : IsL X.K F l p xs ∨ IsT X.K F l p xs) (q : R (.int xs.length) F l) : CG X ts (.builtin "len") [.ref p] F l R :=
  .of call_len_seq fun H S => ⟨p, xs, rfl, h.imp (·.sq S) (·.sq S), fin S q⟩
theorem cg_len_str {z : Str} (h : z.length ≤ sizeLine) (q : R (.int z.length) F l) : CG X ts (.builtin "len") [.str z] F l R :=
  .of call_len_str fun H S => ⟨z, rfl, h, fin S q⟩
theorem cg_list_of {p : Addr} {xs : List V} (h : IsL X.K F l p xs ∨ IsT X.K F l p xs) (q : ∀ z, R (.ref z) F ((z, .lst xs) :: l)) : CG X ts (.type "list") [.ref p] F l R :=
  .of call_list_of fun H S => ⟨p, xs, rfl, h.imp (·.sq S) (·.sq S), fin_new S (fun _ z => nomatch z) q⟩
theorem cg_tuple_of {p : Addr} {xs : List V} (h : IsL X.K F l p xs) (q : ∀ z, R (.ref z) F ((z, .tup xs) :: l)) : CG X ts (.type "tuple") [.ref p] F l R :=
  .of call_tuple_of fun H S => ⟨p, xs, rfl, .inl ⟨h.sq S, fin_new S (fun _ z => nomatch z) q⟩⟩
theorem cg_int {n : Int} (q : R (.int n) F l) : CG X ts (.type "int") [.int n] F l R := .of call_int1 fun H S => .inl ⟨n, rfl, fin S q⟩
theorem cg_int_bl {k : Bool} (q : R (.int (if k then 1 else 0)) F l) : CG X ts (.type "int") [.bl k] F l R := .of call_int1 fun H S => .inr ⟨k, rfl, fin S q⟩
theorem cg_max2 {n m : Int} (hc : X.calm = true) (q : R (.int (if m > n then m else n)) F l) : CG X ts (.builtin "max") [.int n, .int m] F l R := .of (call_max2 hc) fun H S => ⟨n, m, rfl, fin S q⟩
theorem cg_min2 {n m : Int} (hc : X.calm = true) (q : R (.int (if m < n then m else n)) F l) : CG X ts (.builtin "min") [.int n, .int m] F l R := .of (call_min2 hc) fun H S => ⟨n, m, rfl, fin S q⟩
theorem cg_sum {p : Addr} {ns : List Int} (hc : X.calm = true) (h : IsL X.K F l p (ns.map V.int)) (q : R (.int ns.sum) F l) : CG X ts (.builtin "sum") [.ref p] F l R := .of (cr_sum hc) fun H S => ⟨p, ns, rfl, h.sq S, fin S q⟩
theorem cg_sorted {p : Addr} {ns : List Int} (h : IsL X.K F l p (ns.map V.int)) (q : ∀ (ns' : List Int) z, ns'.Perm ns → ns'.Pairwise (· ≤ ·) → R (.ref z) F ((z, .lst (ns'.map V.int)) :: l)) : CG X ts (.builtin "sorted") [.ref p] F l R :=
  .of cr_sortedI fun H S => ⟨p, ns, rfl, h.sq S, fun ns' z h1 h2 hz => ⟨F, _, S.alloc hz (fun _ z => nomatch z), q ns' z h1 h2⟩⟩
theorem cg_repr_int {n : Int} (h : n.natAbs.log2 < 1920) (q : R (.str (toString n)) F l) : CG X ts (.builtin "repr") [.int n] F l R := .of SkE.call_repr_int fun H S => ⟨n, rfl, h, fin S q⟩
theorem cg_str_int {n : Int} (h : n.natAbs.log2 < 1920) (q : R (.str (toString n)) F l) : CG X ts (.type "str") [.int n] F l R := .of call_str_int fun H S => ⟨n, rfl, h, fin S q⟩
theorem ex_bits {apos : Pos} (hbase : attributeBase o "bit_length" X.env (eval o X.env) = eval o X.env) (hline : (apos.endLine == pos.line) = true)
    (h : EX X ts o σ F l fun x F1 l1 => ∃ n : Int, x = .int n ∧ R (.int (Builtin.Int.intBits n : Nat)) F1 l1) : EX X ts (.Call (.Attribute o "bit_length" apos) [] [] pos) σ F l R :=
  ex_of (pe_bits (pe_W X o) hbase hline) fun H S => (h H S).mono fun v H1 ⟨F1, l1, S1, n, e, q⟩ => by
    subst e
    exact ⟨n, rfl, F1, l1, S1, q⟩
/-- list(range(n)), list(range(a, b)) -/
theorem ex_listRange1 {p p1 p2 : Pos} (hc : X.calm = true) (hg : Gl X "list") (hm : X.mg "list" = none) (hg2 : Gl X "range") (hm2 : X.mg "range" = none) (na : starEach [a] X.env = (false, eval a X.env) :: starEach [] X.env)
    (na2 : starEach [.Call (.Name "range" p1) [a] [] p2] X.env = (false, eval (.Call (.Name "range" p1) [a] [] p2) X.env) :: starEach [] X.env)
    (h : EX X ts a σ F l fun v F1 l1 => ∃ n : Int, v = .int n ∧ RgOk 0 n ∧ ∀ z, R (.ref z) F1 ((z, .lst (rgV 0 n)) :: l1)) : EX X ts (.Call (.Name "list" p) [.Call (.Name "range" p1) [a] [] p2] [] pos) σ F l R :=
  ex_of (pe_listRg hc hg hm (prg_1 hg2 hm2 (pe_W X a) na) na2) fun H S => (h H S).mono fun v H1 ⟨F1, l1, S1, n, e, h1, q⟩ => by
    subst e
    exact ⟨n, rfl, h1, fin_new S1 (fun _ z => nomatch z) q⟩
/-! ### comprehensions -/
theorem wipe_get {σ : L2.St} {j : Nat} : ∀ {vs : List Nat}, (wipe σ vs)[j]? = if j ∈ vs ∧ j < σ.length then some none else σ[j]?
  | [] => by simp [wipe]
  | v :: vs => by
    unfold wipe
    rw [List.getElem?_set, wipe_length, wipe_get (vs := vs)]
    by_cases h : v = j
    · subst h
      by_cases h2 : v < σ.length
      · simp [h2]
      · simp [h2, List.getElem?_eq_none (Nat.le_of_not_lt h2)]
    · simp [h, Ne.symm h]
theorem wipe_set {σ : L2.St} {vs : List Nat} {i : Nat} {z : Option V} (h : i ∈ vs) : wipe ((wipe σ vs).set i z) vs = wipe σ vs := by
  apply List.ext_getElem?
  intro j
  rw [wipe_get, wipe_get, List.length_set, wipe_length]
  by_cases hj : j ∈ vs ∧ j < σ.length
  · rw [if_pos hj, if_pos hj]
  · rw [if_neg hj, if_neg hj, List.getElem?_set, wipe_get, wipe_length]
    by_cases hi : i = j
    · subst hi
      have : ¬ i < σ.length := fun q => hj ⟨h, q⟩
      simp [this, List.getElem?_eq_none (Nat.le_of_not_lt this)]
    · simp [hi, hj]
/-- the tests of a comprehension -/
def tWI (X : Cx) (ifs : List Expr) : TT := fun σ H Q => ∀ (pins : List (Addr × Obj)) (s : Shared), Inv X pins σ H s →
  wpAny (model X.prog X.w) X.A (forIn ifs true fun c r => if r = true then do let ok ← isTrue c X.env (eval c X.env); pure (ForInStep.yield ok) else pure (ForInStep.yield r)) (TP X pins σ Q) X.xe s
theorem pts_W (ifs : List Expr) : PTs X ifs (tWI X ifs) := ⟨fun pins s _ _ _ I h => h pins s I⟩
def EI (X : Cx) (ts : Ts) (es : List Expr) (σ : L2.St) (F : Hp) (l : Led) (R : RB) : Prop := ∀ H, SH ts F H l → tWI X es σ H (QR ts R)
theorem ei_nil (h : RT true F l) : EI X ts [] σ F l RT := fun H S pins s I => pts_nil.run pins s σ H _ I ⟨F, l, S, h⟩
theorem ei_one (h : ET X ts a σ F l RT) : EI X ts [a] σ F l RT := fun H S pins s I => (pts_one (pt_W X a)).run pins s σ H _ I (h H S)
/-- the block of a comprehension in X -/
structure Blk (X Y : Cx) (scope : Scope) : Prop where
  ex : ∃ (s : Shared) (H : Hp) (C : Addr) (cl : List (Str × Addr)) (fp : List Addr), Y = X.blk s H scope (compEnvC scope cl C X.env) fp
def tWcE (X : Cx) (scope : Scope) (e : Expr) : TE := fun σ H Q => ∀ Y, Blk X Y scope → tW Y e σ H Q
def tWcI (X : Cx) (scope : Scope) (e : List Expr) : TT := fun σ H Q => ∀ Y, Blk X Y scope → tWI Y e σ H Q
abbrev RJ := Nat → Hp → Led → List V → Prop
theorem ex_lc_list {elt iter : Expr} {ifs : List Expr} {scope : Scope} {own : List (Str × Nat)} {tp : Pos} (hc : X.calm = true) (hN : X.N.Nodup) (hi : X.N[i]? = some x) (ok : BlkOk X.N X.env.scope scope own) (hx : scope.names.lookup x = some .local) (hx2 : (relS scope X.env.scope).names.lookup x = some .local) (hv : i ∈ own.map (·.2))
    (hs : ∀ y, foldedSetIterable iter X.env y = pure y)
    (h : EX X ts iter σ F l fun v F1 l1 => ∃ (a : Addr) (xs : List V) (J : RJ), v = .ref a ∧ xs.length ≤ sizeLine ∧ J 0 F1 l1 [] ∧ (∀ j F l acc, j ≤ xs.length → J j F l acc → IsL X.K F l a xs) ∧
      (∀ j z F l acc D Y, Blk X Y scope → xs[j]? = some z → J j F l acc → EI Y ts ifs ((wipe σ (own.map (·.2))).set i (some z)) F ((D, .lst acc) :: l) fun k F2 l2 =>
        (k = true → ∀ Y, Blk X Y scope → EX Y ts elt ((wipe σ (own.map (·.2))).set i (some z)) F2 l2 fun y F3 l3 => ∃ F4 l4, Ent ts F3 l3 F4 ((D, .lst acc) :: l4) ∧ J (j + 1) F4 l4 (acc ++ [y])) ∧
        (k = false → ∃ F4 l4, Ent ts F2 l2 F4 ((D, .lst acc) :: l4) ∧ J (j + 1) F4 l4 acc)) ∧
      (∀ D F l acc, J xs.length F l acc → R (.ref D) F ((D, .lst acc) :: l))) :
    EX X ts (.ListComp elt [⟨.Name x tp, iter, ifs, 0⟩] scope pos) σ F l R := by
  refine ex_of (pe_lc (own := own) (g := gName i) (tt := tWcI X scope ifs) (te := tWcE X scope elt) hc hN (pi_list (pe_W X iter)) ok (fun s H C cl fp => pg_name (i := i) hN hi (.inl hx2) (.inr hx2)) (fun s H C cl fp => ⟨fun pins s' σ' H' Q I h => h _ ⟨s, H, C, cl, fp, rfl⟩ pins s' I⟩) (fun s H C cl fp => ⟨fun pins s' σ' H' Q I h => h _ ⟨s, H, C, cl, fp, rfl⟩ pins s' I⟩) hs) fun H S => (h H S).mono fun v H1 ⟨F1, l1, S1, a, xs, J, e, hz, j0, hl, step, hend⟩ => ?_
  refine ⟨a, e, ⟨xs, (hl 0 F1 l1 [] (Nat.zero_le _) j0).sq S1⟩, fun D hD => ?_⟩
  refine lc_list (fun j H => ∃ F l acc, SH ts F H ((D, .lst acc) :: l) ∧ acc.length ≤ j ∧ J j F l acc) ⟨F1, l1, [], S1.alloc hD (fun _ z => nomatch z), Nat.zero_le _, j0⟩ (fun j H hj ⟨F, l, acc, S, _, p⟩ => (hl j F l acc hj p).sq (S.to Sub.tail)) (fun j z H hz' ⟨F, l, acc, S, ha, p⟩ => ?_) fun H ⟨F, l, acc, S, _, p⟩ => ⟨F, _, S, hend D F l acc p⟩
  have hj : j < xs.length := (List.getElem?_eq_some_iff.mp hz').1
  refine ⟨wipe_set hv, fun Y hY => ?_⟩
  intro pins s I
  refine thn (step j z F l acc D Y hY hz' p H S pins s I) fun k s' ⟨H2, I2, F2, l2, S2, q1, q2⟩ => ⟨H2, I2, ?_⟩
  cases k with
  | true =>
    rw [if_pos rfl]
    exact fun Y hY => (q1 rfl Y hY H2 S2).mono fun y H3 ⟨F3, l3, S3, F4, l4, s4, p4⟩ => by
      have S4 := s4 _ S3
      exact ⟨acc, (S4.at_ _ (List.mem_cons_self ..)).1, by omega, F4, l4, acc ++ [y], S4.write (i := 0) rfl (fun _ z => nomatch z) (fun _ z => nomatch z), by rw [List.length_append]; exact Nat.succ_le_succ ha, p4⟩
  | false =>
    rw [if_neg Bool.false_ne_true]
    obtain ⟨F4, l4, s4, p4⟩ := q2 rfl
    exact ⟨F4, l4, acc, s4 _ S2, by omega, p4⟩
theorem ex_lc_range {lo hi : Int} {wi : TI} {tg elt iter : Expr} {ifs : List Expr} {scope : Scope} {own : List (Str × Nat)} {tp : Pos} (hc : X.calm = true) (hN : X.N.Nodup) (hi : X.N[i]? = some x) (ok : BlkOk X.N X.env.scope scope own) (hx2 : (relS scope X.env.scope).names.lookup x = some .local) (hv : i ∈ own.map (·.2))
    (hs : ∀ y, foldedSetIterable iter X.env y = pure y) (pw : PI X (.Name x tp) iter wi) (w : ∀ H, SH ts F H l → ∀ RI : It → Hp → Prop,
      (∀ F1 l1 H1 (m : Int) (n : Nat) (J : RJ), SH ts F1 H1 l1 → n ≤ sizeLine → J 0 F1 l1 [] →
      (∀ (j : Nat) F l acc D Y, Blk X Y scope → j < n → J j F l acc → EI Y ts ifs ((wipe σ (own.map (·.2))).set i (some (.int (m + j)))) F ((D, .lst acc) :: l) fun k F2 l2 =>
        (k = true → ∀ Y, Blk X Y scope → EX Y ts elt ((wipe σ (own.map (·.2))).set i (some (.int (m + j)))) F2 l2 fun y F3 l3 => ∃ F4 l4, Ent ts F3 l3 F4 ((D, .lst acc) :: l4) ∧ J (j + 1) F4 l4 (acc ++ [y])) ∧
        (k = false → ∃ F4 l4, Ent ts F2 l2 F4 ((D, .lst acc) :: l4) ∧ J (j + 1) F4 l4 acc)) →
      (∀ D F l acc, J n F l acc → R (.ref D) F ((D, .lst acc) :: l)) → RI (Itr m n) H1) → wi σ H RI) :
    EX X ts (.ListComp elt [⟨.Name x tp, iter, ifs, 0⟩] scope pos) σ F l R := by
  refine ex_of (pe_lc (own := own) (g := gName i) (tt := tWcI X scope ifs) (te := tWcE X scope elt) hc hN pw ok (fun s H C cl fp => pg_name (i := i) hN hi (.inl hx2) (.inr hx2)) (fun s H C cl fp => ⟨fun pins s' σ' H' Q I h => h _ ⟨s, H, C, cl, fp, rfl⟩ pins s' I⟩) (fun s H C cl fp => ⟨fun pins s' σ' H' Q I h => h _ ⟨s, H, C, cl, fp, rfl⟩ pins s' I⟩) hs) fun H S => w H S _ fun F1 l1 H1 m n J S1 hz j0 step hend => ?_
  intro D hD
  refine lc_range (fun j H => ∃ F l acc, SH ts F H ((D, .lst acc) :: l) ∧ acc.length ≤ j ∧ J j F l acc) ⟨F1, l1, [], S1.alloc hD (fun _ z => nomatch z), Nat.zero_le _, j0⟩ (fun j H hj ⟨F, l, acc, S, ha, p⟩ => ?_) fun H ⟨F, l, acc, S, _, p⟩ => ⟨F, _, S, hend D F l acc p⟩
  refine ⟨wipe_set hv, fun Y hY => ?_⟩
  intro pins s I
  refine thn (step j F l acc D Y hY hj p H S pins s I) fun k s' ⟨H2, I2, F2, l2, S2, q1, q2⟩ => ⟨H2, I2, ?_⟩
  cases k with
  | true =>
    rw [if_pos rfl]
    exact fun Y hY => (q1 rfl Y hY H2 S2).mono fun y H3 ⟨F3, l3, S3, F4, l4, s4, p4⟩ => by
      have S4 := s4 _ S3
      exact ⟨acc, (S4.at_ _ (List.mem_cons_self ..)).1, by omega, F4, l4, acc ++ [y], S4.write (i := 0) rfl (fun _ z => nomatch z) (fun _ z => nomatch z), by rw [List.length_append]; exact Nat.succ_le_succ ha, p4⟩
  | false =>
    rw [if_neg Bool.false_ne_true]
    obtain ⟨F4, l4, s4, p4⟩ := q2 rfl
    exact ⟨F4, l4, acc, s4 _ S2, by omega, p4⟩
end
end TL

namespace TL
open PySem PySem.Spec L2

section
variable {X : Cx} {ts : Ts} {σ : L2.St} {F : Hp} {l : Led} {R : RV} {RT : RB} {a b c e o : Expr} {es rest : List Expr} {pos : Pos} {D : EndsL} {st : Stmt} {sts : List Stmt} {i j : Nat} {x y : Str}
/-- for a, b in enumerate(e) -/
theorem sx_for_enum {p1 p2 p3 p4 p5 : Pos} {kk : Nat} {body : List Stmt} (hp : PassesOwn (model X.prog X.w) X.A X.env X.xe) (hc : X.calm = true) (hN : X.N.Nodup) (hi : X.N[i]? = some x) (hj : X.N[j]? = some y) (hx : Loc X.env.scope x) (hy : Loc X.env.scope y)
    (hf : X.fn x = true ∨ X.env.scope.names.lookup x = some .local) (hf2 : X.fn y = true ∨ X.env.scope.names.lookup y = some .local)
    (hg : Gl X "enumerate") (hm : X.mg "enumerate" = none) (hse : starEach [e] X.env = [(false, eval e X.env)])
    (h1 : (assignEach (.Name x p1 :: [.Name y p2]) X.env).map (·.2) = assign (.Name x p1) X.env :: (assignEach [.Name y p2] X.env).map (·.2)) (h2 : (assignEach (.Name y p2 :: []) X.env).map (·.2) = assign (.Name y p2) X.env :: (assignEach [] X.env).map (·.2))
    (h3 : (assignEach [.Name x p1, .Name y p2] X.env).length = 2) (h4 : (assignEach [.Name x p1, .Name y p2] X.env).findIdx? (·.1) = none)
    (hs : ∀ z, foldedSetIterable (.Call (.Name "enumerate" p4) [e] [] p5) X.env z = pure z)
    (h : EX X ts e σ F l fun v F1 l1 => ∃ (a : Addr) (xs : List V) (Pv : Nat → RS), v = .ref a ∧ Pv 0 σ F1 l1 ∧ (∀ n σ F l, n ≤ xs.length → Pv n σ F l → IsL X.K F l a xs) ∧
      (∀ n z T σ F l, xs[n]? = some z → Pv n σ F l → BX X ts body ((σ.set i (some (.int n))).set j (some z)) F ((T, .tup [.int n, z]) :: l) { D with nx := Up ts (Pv (n + 1)), ct := Up ts (Pv (n + 1)), bk := D.nx }) ∧ (∀ σ F l, Pv xs.length σ F l → D.nx σ F l)) :
    SX X ts (.For (.Tuple [.Name x p1, .Name y p2] kk p3) (.Call (.Name "enumerate" p4) [e] [] p5) body [] pos) σ F l D :=
  sx_of (ps_for hp hc (pi_enum hg hm (pa_cons (pe_W X e) pa_nil hse) hse) (pg_tup hc (pgs_cons (pg_name (i := i) hN hi hx hf) (pgs_cons (pg_name (i := j) hN hj hy hf2) pgs_nil h2) h1) h3 h4) (pss_W X body) hs) fun H S => (h H S).mono fun v H1 ⟨F1, l1, S1, a, xs, Pv, e1, p0, hl, step, hend⟩ => by
    subst e1
    refine ⟨a, xs, rfl, (hl 0 σ F1 l1 (Nat.zero_le _) p0).sq S1, for_it walk_enum (fun n σ H => ∃ F l, SH ts F H l ∧ Pv n σ F l) ⟨F1, l1, S1, p0⟩ (fun n σ H hn ⟨F, l, S, p⟩ => (hl n σ F l hn p).sq S) (fun n v σ H H' hn ⟨F, l, S, p⟩ ⟨T, u, z, e1, hT, e2, e3, e4⟩ => ?_) fun σ H ⟨F, l, S, p⟩ => ⟨F, l, S, hend σ F l p⟩⟩
    subst e1; subst e2
    have e3' : u = .int (n : Nat) := (Option.some.inj e3).symm
    subst e3'
    exact ⟨T, [.int (n : Nat), z], rfl, .of upd_same, rfl, .int (n : Nat), [z], rfl, z, [], rfl, rfl, tWB_up (step n z T σ F l e4 p _ (S.alloc hT (fun _ z => nomatch z)))⟩
/-- for a, b in zip(e, c) -/
theorem sx_for_zip {p1 p2 p3 p4 p5 : Pos} {kk : Nat} {body : List Stmt} (hp : PassesOwn (model X.prog X.w) X.A X.env X.xe) (hc : X.calm = true) (hN : X.N.Nodup) (hi : X.N[i]? = some x) (hj : X.N[j]? = some y) (hx : Loc X.env.scope x) (hy : Loc X.env.scope y)
    (hf : X.fn x = true ∨ X.env.scope.names.lookup x = some .local) (hf2 : X.fn y = true ∨ X.env.scope.names.lookup y = some .local)
    (hg : Gl X "zip") (hm : X.mg "zip" = none) (hse : starEach [e, c] X.env = (false, eval e X.env) :: starEach [c] X.env) (hse2 : starEach [c] X.env = (false, eval c X.env) :: starEach [] X.env) (hpl : (backTo p5 (starEach [c] X.env)).any (·.1) = false)
    (h1 : (assignEach (.Name x p1 :: [.Name y p2]) X.env).map (·.2) = assign (.Name x p1) X.env :: (assignEach [.Name y p2] X.env).map (·.2)) (h2 : (assignEach (.Name y p2 :: []) X.env).map (·.2) = assign (.Name y p2) X.env :: (assignEach [] X.env).map (·.2))
    (h3 : (assignEach [.Name x p1, .Name y p2] X.env).length = 2) (h4 : (assignEach [.Name x p1, .Name y p2] X.env).findIdx? (·.1) = none)
    (hs : ∀ z, foldedSetIterable (.Call (.Name "zip" p4) [e, c] [] p5) X.env z = pure z)
    (h : EX X ts e σ F l fun v F1 l1 => EX X ts c σ F1 l1 fun u F2 l2 => ∃ (a b : Addr) (xs ys : List V) (Pv : Nat → RS), v = .ref a ∧ u = .ref b ∧ Pv 0 σ F2 l2 ∧ (∀ n σ F l, n ≤ min xs.length ys.length → Pv n σ F l → IsL X.K F l a xs ∧ IsL X.K F l b ys) ∧
      (∀ n z1 z2 T σ F l, xs[n]? = some z1 → ys[n]? = some z2 → Pv n σ F l → BX X ts body ((σ.set i (some z1)).set j (some z2)) F ((T, .tup [z1, z2]) :: l) { D with nx := Up ts (Pv (n + 1)), ct := Up ts (Pv (n + 1)), bk := D.nx }) ∧ (∀ σ F l, Pv (min xs.length ys.length) σ F l → D.nx σ F l)) :
    SX X ts (.For (.Tuple [.Name x p1, .Name y p2] kk p3) (.Call (.Name "zip" p4) [e, c] [] p5) body [] pos) σ F l D :=
  sx_of (ps_for hp hc (pi_zip hg hm (pa_cons (pe_W X e) (pa_cons (pe_W X c) pa_nil hse2) hse) hse hpl) (pg_tup hc (pgs_cons (pg_name (i := i) hN hi hx hf) (pgs_cons (pg_name (i := j) hN hj hy hf2) pgs_nil h2) h1) h3 h4) (pss_W X body) hs) fun H S => (h H S).mono fun v H1 ⟨F1, l1, S1, q⟩ => (q H1 S1).mono fun u H2 ⟨F2, l2, S2, a, b, xs, ys, Pv, e1, e2, p0, hl, step, hend⟩ => by
    subst e1; subst e2
    have l0 := hl 0 σ F2 l2 (Nat.zero_le _) p0
    refine ⟨a, b, xs, ys, rfl, l0.1.sq S2, l0.2.sq S2, for_it (walk_zip rfl) (fun n σ H => ∃ F l, SH ts F H l ∧ Pv n σ F l) ⟨F2, l2, S2, p0⟩ (fun n σ H hn ⟨F, l, S, p⟩ => ⟨(hl n σ F l hn p).1.sq S, (hl n σ F l hn p).2.sq S⟩) (fun n v σ H H' hn ⟨F, l, S, p⟩ ⟨T, z1, z2, e1, hT, e2, e3, e4⟩ => ?_) fun σ H ⟨F, l, S, p⟩ => ⟨F, l, S, hend σ F l p⟩⟩
    subst e1; subst e2
    exact ⟨T, [z1, z2], rfl, .of upd_same, rfl, z1, [z2], rfl, z2, [], rfl, rfl, tWB_up (step n z1 z2 T σ F l e3 e4 p _ (S.alloc hT (fun _ z => nomatch z)))⟩
/-- for c in a text -/
theorem sx_for_str {tp : Pos} {iter : Expr} {body : List Stmt} (hp : PassesOwn (model X.prog X.w) X.A X.env X.xe) (hc : X.calm = true) (hN : X.N.Nodup) (hi : X.N[i]? = some x) (hx : Loc X.env.scope x) (hf : X.fn x = true ∨ X.env.scope.names.lookup x = some .local)
    (hs : ∀ y, foldedSetIterable iter X.env y = pure y)
    (h : EX X ts iter σ F l fun v F1 l1 => ∃ (z : Str) (Pv : Nat → RS), v = .str z ∧ Pv 0 σ F1 l1 ∧
      (∀ n c σ F l, z.cps[n]? = some c → Pv n σ F l → BX X ts body (σ.set i (some (.str ⟨#[c]⟩))) F l { D with nx := Up ts (Pv (n + 1)), ct := Up ts (Pv (n + 1)), bk := D.nx }) ∧ (∀ σ F l, Pv z.cps.size σ F l → D.nx σ F l)) :
    SX X ts (.For (.Name x tp) iter body [] pos) σ F l D :=
  sx_of (ps_for hp hc (pi_str (pe_W X iter)) (pg_name (i := i) hN hi hx hf) (pss_W X body) hs) fun H S => (h H S).mono fun v H1 ⟨F1, l1, S1, z, Pv, e1, p0, step, hend⟩ => by
    subst e1
    refine ⟨z, rfl, for_it walk_str (fun n σ H => ∃ F l, SH ts F H l ∧ Pv n σ F l) ⟨F1, l1, S1, p0⟩ (fun _ _ _ _ _ => True.intro) (fun n v σ H H' hn ⟨F, l, S, p⟩ ⟨e1, c, e2, e3⟩ => ?_) fun σ H ⟨F, l, S, p⟩ => ⟨F, l, S, hend σ F l p⟩⟩
    subst e1; subst e3
    exact tWB_up (step n c σ F l e2 p _ S)
/-- for x in a tuple -/
theorem sx_for_tup {tp : Pos} {iter : Expr} {body : List Stmt} (hp : PassesOwn (model X.prog X.w) X.A X.env X.xe) (hc : X.calm = true) (hN : X.N.Nodup) (hi : X.N[i]? = some x) (hx : Loc X.env.scope x) (hf : X.fn x = true ∨ X.env.scope.names.lookup x = some .local)
    (hs : ∀ y, foldedSetIterable iter X.env y = pure y)
    (h : EX X ts iter σ F l fun v F1 l1 => ∃ (a : Addr) (xs : List V) (Pv : Nat → RS), v = .ref a ∧ Pv 0 σ F1 l1 ∧ (∀ j σ F l, j ≤ xs.length → Pv j σ F l → IsT X.K F l a xs) ∧
      (∀ j z σ F l, xs[j]? = some z → Pv j σ F l → BX X ts body (σ.set i (some z)) F l { D with nx := Up ts (Pv (j + 1)), ct := Up ts (Pv (j + 1)), bk := D.nx }) ∧ (∀ σ F l, Pv xs.length σ F l → D.nx σ F l)) :
    SX X ts (.For (.Name x tp) iter body [] pos) σ F l D :=
  sx_of (ps_for hp hc (pi_tup (pe_W X iter)) (pg_name (i := i) hN hi hx hf) (pss_W X body) hs) fun H S => (h H S).mono fun v H1 ⟨F1, l1, S1, a, xs, Pv, e, p0, hl, step, hend⟩ =>
    ⟨a, e, ⟨xs, (hl 0 σ F1 l1 (Nat.zero_le _) p0).sq S1⟩, for_tup (fun j σ H => ∃ F l, SH ts F H l ∧ Pv j σ F l) ⟨F1, l1, S1, p0⟩ (fun j σ H hj ⟨F, l, S, p⟩ => (hl j σ F l hj p).sq S)
      (fun j z σ H hz ⟨F, l, S, p⟩ => tWB_up (step j z σ F l hz p H S)) fun σ H ⟨F, l, S, p⟩ => ⟨F, l, S, hend σ F l p⟩⟩
/-! ### comprehensions over range -/
/-- what the turns of a comprehension over m, m + 1, .. (n of them) must show -/
structure LcR (X : Cx) (ts : Ts) (scope : Scope) (σ' : L2.St) (i : Nat) (ifs : List Expr) (elt : Expr) (m : Int) (n : Nat) (R : RV) (F : Hp) (l : Led) (J : RJ) : Prop where
  sz : n ≤ sizeLine
  z : J 0 F l []
  step : ∀ (j : Nat) F l acc D Y, Blk X Y scope → j < n → J j F l acc → EI Y ts ifs (σ'.set i (some (.int (m + j)))) F ((D, .lst acc) :: l) fun k F2 l2 =>
    (k = true → ∀ Y, Blk X Y scope → EX Y ts elt (σ'.set i (some (.int (m + j)))) F2 l2 fun y F3 l3 => ∃ F4 l4, Ent ts F3 l3 F4 ((D, .lst acc) :: l4) ∧ J (j + 1) F4 l4 (acc ++ [y])) ∧
    (k = false → ∃ F4 l4, Ent ts F2 l2 F4 ((D, .lst acc) :: l4) ∧ J (j + 1) F4 l4 acc)
  fin : ∀ D F l acc, J n F l acc → R (.ref D) F ((D, .lst acc) :: l)
theorem ex_lc_range1 {elt : Expr} {p2 p3 : Pos} {ifs : List Expr} {scope : Scope} {own : List (Str × Nat)} {tp : Pos} (hc : X.calm = true) (hN : X.N.Nodup) (hi : X.N[i]? = some x) (ok : BlkOk X.N X.env.scope scope own) (hx2 : (relS scope X.env.scope).names.lookup x = some .local) (hv : i ∈ own.map (·.2))
    (hg : Gl X "range") (hm : X.mg "range" = none) (hse : starEach [a] X.env = [(false, eval a X.env)]) (hs : ∀ y, foldedSetIterable (.Call (.Name "range" p2) [a] [] p3) X.env y = pure y)
    (h : EX X ts a σ F l fun v F1 l1 => ∃ (n : Int) (J : RJ), v = .int n ∧ -(2 ^ 62) ≤ n ∧ n < 2 ^ 62 ∧ LcR X ts scope (wipe σ (own.map (·.2))) i ifs elt 0 n.toNat R F1 l1 J) :
    EX X ts (.ListComp elt [⟨.Name x tp, .Call (.Name "range" p2) [a] [] p3, ifs, 0⟩] scope pos) σ F l R :=
  ex_lc_range (lo := 0) (hi := 0) (tg := a) (iter := .Call (.Name "range" p2) [a] [] p3) hc hN hi ok hx2 hv hs (pi_range1 hg hm (pa_cons (pe_W X a) pa_nil hse) hse) fun H S RI k => (h H S).mono fun v H1 ⟨F1, l1, S1, n, J, e, n1, n2, w⟩ => by
    subst e
    exact ⟨n, rfl, n1, n2, k F1 l1 H1 0 n.toNat J S1 w.sz w.z w.step w.fin⟩
theorem ex_lc_range2 {elt : Expr} {p2 p3 : Pos} {ifs : List Expr} {scope : Scope} {own : List (Str × Nat)} {tp : Pos} (hc : X.calm = true) (hN : X.N.Nodup) (hi : X.N[i]? = some x) (ok : BlkOk X.N X.env.scope scope own) (hx2 : (relS scope X.env.scope).names.lookup x = some .local) (hv : i ∈ own.map (·.2))
    (hg : Gl X "range") (hm : X.mg "range" = none) (hse : starEach [a, b] X.env = [(false, eval a X.env), (false, eval b X.env)]) (hse2 : starEach [b] X.env = [(false, eval b X.env)]) (hs : ∀ y, foldedSetIterable (.Call (.Name "range" p2) [a, b] [] p3) X.env y = pure y)
    (h : EX X ts a σ F l fun v F1 l1 => EX X ts b σ F1 l1 fun u F2 l2 => ∃ (m n : Int) (J : RJ), v = .int m ∧ u = .int n ∧ (-(2 ^ 62) ≤ m ∧ m < 2 ^ 62 ∧ -(2 ^ 62) ≤ n ∧ n < 2 ^ 62) ∧ LcR X ts scope (wipe σ (own.map (·.2))) i ifs elt m (n - m).toNat R F2 l2 J) :
    EX X ts (.ListComp elt [⟨.Name x tp, .Call (.Name "range" p2) [a, b] [] p3, ifs, 0⟩] scope pos) σ F l R :=
  ex_lc_range (lo := 0) (hi := 0) (tg := a) (iter := .Call (.Name "range" p2) [a, b] [] p3) hc hN hi ok hx2 hv hs (pi_range2 hg hm (pa_cons (pe_W X a) (pa_cons (pe_W X b) pa_nil hse2) (by rw [hse, hse2])) hse hse2) fun H S RI k => (h H S).mono fun v H1 ⟨F1, l1, S1, q⟩ => (q H1 S1).mono fun u H2 ⟨F2, l2, S2, m, n, J, e, e2, nb, w⟩ => by
    subst e; subst e2
    exact ⟨m, n, rfl, nb, k F2 l2 H2 m (n - m).toNat J S2 w.sz w.z w.step w.fin⟩
/-! ### item stores -/
theorem sx_item {o b : Expr} {p1 : Pos} (hsw : swapsWithSole [.Subscript o b p1] e pos.line X.env = pure false) (hw : swappedStores [.Subscript o b p1] e X.env = pure none) (h1 : (assignEach [.Subscript o b p1] X.env).map (·.2) = [assign (.Subscript o b p1) X.env])
    (ha : ∀ v, assign (.Subscript o b p1) X.env v = (do
      let ov ← holding [v] (eval o X.env)
      let iv ← holding [v, ov] (eval b X.env)
      standAt p1
      holding [v, ov, iv] (setItem ov iv v)
      release [v, ov, iv] []))
    (h : EX X ts e σ F l fun v F1 l1 => EX X ts o σ F1 l1 fun x F2 l2 => EX X ts b σ F2 l2 fun y F3 l3 => ∃ (p : Addr) (xs : List V) (k : Int) (n j : Nat), x = .ref p ∧ y = .int k ∧ l3[n]? = some (p, .lst xs) ∧ ixN xs.length k = some j ∧ D.nx σ F3 (l3.set n (p, .lst (xs.set j v)))) :
    SX X ts (.Assign [.Subscript o b p1] e pos) σ F l D :=
  sx_of (ps_asg (pe_W X e) (pg_sub (pe_W X o) (pe_W X b) set_list ha) hsw hw h1) fun H S => (h H S).mono fun v H1 ⟨F1, l1, S1, q1⟩ => (q1 H1 S1).mono fun x H2 ⟨F2, l2, S2, q2⟩ => (q2 H2 S2).mono fun y H3 ⟨F3, l3, S3, p, xs, k, n, j, e1, e2, hl, hj, q3⟩ => by
    subst e1; subst e2
    exact ⟨p, xs, k, j, rfl, rfl, (S3.at_ _ (List.mem_of_getElem? hl)).1, hj, F3, _, S3.write hl (fun _ z => nomatch z) (fun _ z => nomatch z), q3⟩
/-! ## defs: what a call asks and gives -/
abbrev RX := Value → Option Addr → Hp → Led → Prop
abbrev PrT := List V → Hp → Led → RV → RX → Prop
def spL (ts : Ts) (Pr : PrT) : Sp := fun vs H Q E => ∃ (F : Hp) (l : Led) (R : RV) (RE : RX), SH ts F H l ∧ Pr vs F l R RE ∧ (∀ v F' l' H', SH ts F' H' l' → R v F' l' → Q v H') ∧ ∀ c d F' l' H', SH ts F' H' l' → RE c d F' l' → E c d H'
structure Callee (P : Program) (w : World) (K : PySem.W.Frag) (mg : Str → Option Value) (base : Heap) (ts : Ts) (CX : CXT) (k : Nat) (x : Str) (ps : List Str) (Pr : PrT) (f : Addr) (fd : FuncData) : Prop where
  ok : FnG P w K mg base CX k f fd ps (spL ts Pr)
  at_ : mg x = some (.ref f)
  kp : PySem.W.keepIn K (.ref f) = true
  bd : KBn K fd ps ps.length [] (fun us _ => us) (fun vs _ => vs)
abbrev NoX : RX := fun _ _ _ _ => False
section
variable {CX : CXT} {k k' : Nat} {ps : List Str} {Pr : PrT} {f : Addr} {fd : FuncData} {p : Pos} {E : XK} {RE : RX}
theorem ex_callE (C : Callee X.prog X.w X.K X.mg X.base ts CX k x ps Pr f fd) (hr : RmG k' X.A) (hk : k ≤ k') (hx : PassesAt CX X σ E) (hE : ∀ c d F' l' H', SH ts F' H' l' → RE c d F' l' → E c d H') (hg : Gl X x)
    (hdb : (x == ("__debug__" : Str)) = false) (he : starEach (e :: es) X.env = (false, eval e X.env) :: starEach es X.env) (hpl : (backTo pos (starEach es X.env)).any (·.1) = false)
    (h : EA X ts (e :: es) σ F l fun vs F1 l1 => Pr vs F1 l1 R RE) : EX X ts (.Call (.Name x p) (e :: es) [] pos) σ F l R := by
  refine fun H S pins s I => ?_
  refine wpAny_Call_Name_kw (ld_glob I hg C.at_ ?_ hdb)
  refine PySem.W.callWith_K (h₀ := X.base) I.ok.mod.kin C.kp (thn ((pa_W X (e :: es)).run pos pins s σ H _ I (h H S)) fun us s1 ⟨vs, H1, I1, r1, F1, l1, S1, q⟩ => ⟨I1.kIn, ?_⟩) he hpl
  have sp : spL ts Pr vs H1 (QR ts R) E := ⟨F1, l1, R, RE, S1, q, fun v F' l' H' S' r => ⟨F', l', S', r⟩, hE⟩
  exact run_G (ws := []) (zs := []) C.ok (hr.mono hk) C.bd hx I1 r1 .nil (C.ok.len _ _ _ _ sp) rfl sp
theorem ex_call0E (C : Callee X.prog X.w X.K X.mg X.base ts CX k x ps Pr f fd) (hr : RmG k' X.A) (hk : k ≤ k') (hx : PassesAt CX X σ E) (hE : ∀ c d F' l' H', SH ts F' H' l' → RE c d F' l' → E c d H') (hg : Gl X x)
    (hdb : (x == ("__debug__" : Str)) = false) (h : Pr [] F l R RE) : EX X ts (.Call (.Name x p) [] [] pos) σ F l R := by
  refine fun H S pins s I => ?_
  refine wpAny_Call_Name_kw (ld_glob I hg C.at_ ?_ hdb)
  have sp : spL ts Pr [] H (QR ts R) E := ⟨F, l, R, RE, S, h, fun v F' l' H' S' r => ⟨F', l', S', r⟩, hE⟩
  exact PySem.W.callWith_K0 I.kIn C.kp (run_G (us := []) (vs := []) (ws := []) (zs := []) C.ok (hr.mono hk) C.bd hx I .nil .nil (C.ok.len _ _ _ _ sp) rfl sp)
/-- f(k = v, ..) -/
theorem ex_callKE {ks : List Str} {kws : List Keyword} {g : List Value → List Value → List Value} {gV : List V → List V → List V} {tk : TA} (C : Callee X.prog X.w X.K X.mg X.base ts CX k x ps Pr f fd) (hr : RmG k' X.A) (hk : k ≤ k') (hx : PassesAt CX X σ E) (hE : ∀ c d F' l' H', SH ts F' H' l' → RE c d F' l' → E c d H') (hg : Gl X x)
    (hb : KBn X.K fd ps 0 ks g gV) (hkw : PK X kws tk) (hall : (backToKw pos (keywordEach kws X.env)).all (·.1.isSome) = true) (hks : (backToKw pos (keywordEach kws X.env)).filterMap (·.1) = ks) (hdb : (x == ("__debug__" : Str)) = false)
    (hpl : ((backTo pos (starEach [] X.env)).any (·.1) || (backToKw pos (keywordEach kws X.env)).any (·.1.isNone)) = false)
    (h : ∀ H, SH ts F H l → tk σ H fun zs H1 => zs.length = ks.length ∧ ∃ F1 l1, SH ts F1 H1 l1 ∧ Pr (gV [] zs) F1 l1 R RE) : EX X ts (.Call (.Name x p) [] kws pos) σ F l R := by
  refine fun H S pins s I => ?_
  refine wpAny_Call_Name_kw (ld_glob I hg C.at_ ?_ hdb)
  refine PySem.W.callWith_KW0 (h₀ := X.base) I.ok.mod.kin C.kp hall ?_ hpl
  refine thn (hkw.run pos pins s σ H _ I (h H S)) fun ws s2 ⟨zs, H2, I2, rz, l2, F1, l1, S1, q2⟩ => ⟨I2.kIn, ?_⟩
  rw [hks]
  exact run_G (us := []) (vs := []) C.ok (hr.mono hk) hb hx I2 .nil rz rfl l2 ⟨F1, l1, R, RE, S1, q2, fun v F' l' H' S' r => ⟨F', l', S', r⟩, hE⟩
end
/-- a def's body keeps what is promised -/
theorem fn_ok {P : Program} {w : World} {K : PySem.W.Frag} {mg : Str → Option Value} {base : Heap} {x qual : Str} {params : Arguments} {body : List Stmt} {scope : Scope} {dvs : List V} {kws : List (Str × V)} {f : Addr} {fd : FuncData} {N ps : List Str} {k : Nat} {Pr : PrT}
    (Fd : FunD K x qual params body scope dvs kws f fd) (S : FnScope N ps scope) (len : ∀ vs F l R RE, Pr vs F l R RE → vs.length = ps.length)
    (h : ∀ (cdv : Value) (A : Around) (outer : List Env) (s : Shared) (H : Hp) (E : XK), RmG k (A.deeper (PyProof.Rows.envOfC qual scope s.heap.objs.size f cdv)) → ∀ vs F l R RE, Pr vs F l R RE →
      BX (cxOf CX0 P w K mg base N qual scope f cdv A outer s H E).nox ts body (start N vs) F l { nx := fun _ => Up ts R .non, rt := Up ts R }) : FnG P w K mg base CX0 (k + 1) f fd ps (spL ts Pr) := by
  refine .mk_ Fd S (fun vs H Q E ⟨F, l, R, RE, _, h, _⟩ => len vs F l R RE h) fun cdv A outer s H vs Q E _ hr ⟨F, l, R, RE, S', hp, hq, _⟩ => ?_
  refine PSs.toW (pss_W _ body).nox ?_
  exact (h cdv A outer s H E hr vs F l R RE hp H S').mono ⟨fun σ H ⟨F, l, S, F', l', e, r⟩ => hq _ _ _ _ (e H S) r, fun v H ⟨F, l, S, F', l', e, r⟩ => hq _ _ _ _ (e H S) r, fun _ _ ⟨_, _, _, z⟩ => z.elim, fun _ _ ⟨_, _, _, z⟩ => z.elim⟩
/-- a def that may raise -/
theorem fn_okX {P : Program} {w : World} {K : PySem.W.Frag} {mg : Str → Option Value} {base : Heap} {x qual : Str} {params : Arguments} {body : List Stmt} {scope : Scope} {dvs : List V} {kws : List (Str × V)} {f : Addr} {fd : FuncData} {N ps : List Str} {k : Nat} {Pr : PrT}
    (Fd : FunD K x qual params body scope dvs kws f fd) (S : FnScope N ps scope) (len : ∀ vs F l R RE, Pr vs F l R RE → vs.length = ps.length)
    (h : ∀ (cdv : Value) (A : Around) (outer : List Env) (s : Shared) (H : Hp) (E : XK), RmG k (A.deeper (PyProof.Rows.envOfC qual scope s.heap.objs.size f cdv)) → ∀ vs F l R RE, (∀ c d F' l' H', SH ts F' H' l' → RE c d F' l' → E c d H') → Pr vs F l R RE →
      BX (cxOf (L2.CX P w) P w K mg base N qual scope f cdv A outer s H E) ts body (start N vs) F l { nx := fun _ => Up ts R .non, rt := Up ts R }) : FnG P w K mg base (L2.CX P w) (k + 1) f fd ps (spL ts Pr) := by
  refine .mk_ Fd S (fun vs H Q E ⟨F, l, R, RE, _, h, _⟩ => len vs F l R RE h) fun cdv A outer s H vs Q E _ hr ⟨F, l, R, RE, S', hp, hq, hE⟩ => ?_
  exact (h cdv A outer s H E hr vs F l R RE hE hp H S').mono ⟨fun σ H ⟨F, l, S, F', l', e, r⟩ => hq _ _ _ _ (e H S) r, fun v H ⟨F, l, S, F', l', e, r⟩ => hq _ _ _ _ (e H S) r, fun _ _ ⟨_, _, _, z⟩ => z.elim, fun _ _ ⟨_, _, _, z⟩ => z.elim⟩
/-- .. its code object being known -/
theorem fn_okC {P : Program} {w : World} {K : PySem.W.Frag} {mg : Str → Option Value} {base : Heap} {x qual : Str} {params : Arguments} {body : List Stmt} {scope : Scope} {dvs : List V} {kws : List (Str × V)} {f : Addr} {fd : FuncData} {N ps : List Str} {k : Nat} {Pr : PrT}
    (Fd : FunD K x qual params body scope dvs kws f fd) (S : FnScope N ps scope) (len : ∀ vs F l R RE, Pr vs F l R RE → vs.length = ps.length)
    (h : ∀ (cdv : Value) (A : Around) (outer : List Env) (s : Shared) (H : Hp) (E : XK), fd.code = cdv → RmG k (A.deeper (PyProof.Rows.envOfC qual scope s.heap.objs.size f cdv)) → ∀ vs F l R RE, Pr vs F l R RE →
      BX (cxOf CX0 P w K mg base N qual scope f cdv A outer s H E).nox ts body (start N vs) F l { nx := fun _ => Up ts R .non, rt := Up ts R }) : FnG P w K mg base CX0 (k + 1) f fd ps (spL ts Pr) := by
  refine .mk_ Fd S (fun vs H Q E ⟨F, l, R, RE, _, h, _⟩ => len vs F l R RE h) fun cdv A outer s H vs Q E hcd hr ⟨F, l, R, RE, S', hp, hq, _⟩ => ?_
  refine PSs.toW (pss_W _ body).nox ?_
  exact (h cdv A outer s H E hcd hr vs F l R RE hp H S').mono ⟨fun σ H ⟨F, l, S, F', l', e, r⟩ => hq _ _ _ _ (e H S) r, fun v H ⟨F, l, S, F', l', e, r⟩ => hq _ _ _ _ (e H S) r, fun _ _ ⟨_, _, _, z⟩ => z.elim, fun _ _ ⟨_, _, _, z⟩ => z.elim⟩
theorem kbnN {K : PySem.W.Frag} {x qual : Str} {params : Arguments} {body : List Stmt} {scope : Scope} {f : Addr} {fd : FuncData} {ps : List Str} (n : Nat) (ks : List Str) (g : {α : Type} → List α → List α → List α) (Fd : FunD K x qual params body scope [] [] f fd)
    (hrel : ∀ {vs zs : List V} {us ws : List Value}, Vals vs us → Vals zs ws → Vals (g vs zs) (g us ws))
    (h : ∀ (kV doc pm : Value) (an : Option Addr) (cdv ct : Value) (us ws : List Value), us.length = n → ws.length = ks.length → bindArgs (PySem.W.fnOf x qual params body scope .none kV doc pm an cdv ct) ⟨us, ks.zip ws⟩ = pure (ps.zip (g us ws))) : KBn K fd ps n ks g g := by
  obtain ⟨oc, od, dV, kV, doc, pm, an, cdv, ct, osl, rfl, lk, hcd, hD, hK⟩ := Fd.ex
  rcases hD with ⟨_, rfl⟩ | ⟨e, _⟩
  · exact ⟨fun s us ws X l1 l2 => .of_eq (h kV doc pm an cdv ct us ws l1 l2), hrel⟩
  · exact absurd rfl e
end
end TL

namespace TL
open PySem PySem.Spec L2
section
variable {X : Cx} {ts : Ts} {σ : L2.St} {F : Hp} {l : Led} {R : RV} {RT : RB} {a b c e o : Expr} {es rest : List Expr} {pos : Pos} {D : EndsL} {st : Stmt} {sts : List Stmt} {i j : Nat} {x y : Str} {N : List Str}
/-- the names by their slots, as a fact in the context -/
abbrev Nd (N : List Str) : Prop := N.Nodup
theorem ex_nameN {v : V} (nd : Nd N) (hX : X.N = N) (hN : N[i]? = some x) (hσ : σ[i]? = some (some v)) (hv : Vis X.env.scope x) (h : R v F l) (hd : (x == ("__debug__" : Str)) = false := by decide) (hcd : (x == ("__classdict__" : Str)) = false := by decide) : EX X ts (.Name x pos) σ F l R :=
  ex_name (by rw [hX]; exact hN) hv hσ h hd hcd
theorem sx_setN {pos' : Pos} (nd : Nd N) (hX : X.N = N) (hi : N[i]? = some x) (hx : Loc X.env.scope x) (hs : swapsWith e (some (.Name x pos')) pos.line X.env = pure false) (hf : X.fn x = true ∨ X.env.scope.names.lookup x = some .local)
    (h : EX X ts e σ F l fun v F1 l1 => D.nx (σ.set i (some v)) F1 l1) : SX X ts (.Assign [.Name x pos'] e pos) σ F l D :=
  sx_set (by rw [hX]; exact nd) (by rw [hX]; exact hi) hx hs hf h
/-- % by a positive number: only the bounds are kept -/
theorem og_mod_gen {i j : Int} (hc : 0 < j) (h : ∀ r : Int, 0 ≤ r → r < j → R (.int r) F l) : OG X ts (binaryOp .Mod) (.int i) (.int j) F l R :=
  og_mod_int hc (h _ (Int.emod_nonneg _ (by omega)) (Int.emod_lt_of_pos _ hc))
theorem cmul_of {i j : Int} {a b : Nat} (h1 : i.natAbs < 2 ^ (a + 1)) (h2 : j.natAbs < 2 ^ (b + 1)) (h : a + b ≤ 900000) : CMulW i j := wide_mul h1 h2 (Nat.succ_pos _) (Nat.succ_pos _) (by omega)
theorem abs_lt {i : Int} {a : Nat} (h1 : -(a : Int) < i) (h2 : i < (a : Int)) : i.natAbs < a := by omega
theorem abs_mul_lt {i j : Int} {a b : Nat} (h1 : i.natAbs < a) (h2 : j.natAbs < b) : (i * j).natAbs < a * b := by
  rw [Int.natAbs_mul]
  exact Nat.mul_lt_mul'' h1 h2
theorem abs_add_lt {i j : Int} {a b : Nat} (h1 : i.natAbs < a) (h2 : j.natAbs < b) : (i + j).natAbs < a + b := by omega
theorem passN {X : Cx} {σ : L2.St} {E : XK} : PassesAt CX0 X σ E := fun _ _ _ _ _ _ h => h.elim
theorem bits_le {n : Int} {k : Nat} (h : n.natAbs < 2 ^ k) : Builtin.Int.intBits n ≤ k := by
  unfold Builtin.Int.intBits
  by_cases h0 : n = 0
  · subst h0; simp
  · have h1 : (n == 0) = false := by simpa using h0
    rw [h1]
    exact (Nat.log2_lt (by omega)).mpr h
theorem cdiv_600 {i j : Int} (h2 : 0 < j) (h3 : j < 2 ^ 119) : CDivW i j := wide_div (b := 119) h2 (by omega) (by decide) (by decide)
theorem atI_nn {α : Type} {xs : List α} {i : Int} (h0 : 0 ≤ i) (h1 : i < xs.length) : atI xs i = xs[i.toNat]? := by
  unfold atI ixN
  simp [h0, h1]
theorem szl {xs : List V} (h : Nat.ble xs.length 1000 = true) : xs.length ≤ sizeLine := by
  have := Nat.le_of_ble_eq_true h
  rw [sizeLine_eq]
  omega
theorem szN {n : Nat} (h : n ≤ 1000) : n ≤ sizeLine := by
  rw [sizeLine_eq]
  omega
theorem cmul_small {i j : Int} (h1 : i.natAbs < 2 ^ 300) (h2 : j.natAbs < 2 ^ 300) : CMulW i j := wide_mul h1 h2 (by decide) (by decide) (by decide)
end
end TL

namespace TL
open PySem PySem.Spec L2 PyProof.Rows
/-! ## own errors over ValueError, made with keywords or without: what their class answers, then one walk over the model's own text -/
/-- at C stands a class of the text that hangs on ValueError, its mro is bm behind itself -/
structure ErrCls (h : Heap) (C : Addr) (bm : List Value) : Prop where
  ob : ∃ nm q N bs hd sn sub ab col dd k0 k1 k2 k3 k5, h.get? C = some (excClassObj nm q C N bs bm hd sn sub ab col dd k0 k1 k2 k3 k5 "ValueError.__new__")
  ve : PySem.HandSPX.refsVE bm = true
abbrev errTup (us : List Value) : Obj := { cls := .type "tuple", data := .seq us.toArray }
abbrev errNew (C t : Addr) : Obj := { cls := .ref C, data := .fields #[.ref t, .none, .none, .none, .bool false, .none] }
/-- the heap behind the making, ahead of __init__ -/
abbrev errHp (h : Heap) (C : Addr) (us : List Value) : Heap := (h.push (errTup us)).push (errNew C h.objs.size)
namespace ErrCls
section
variable {M : Model} {h : Heap} {C : Addr} {bm us : List Value} {kw : List (Str × Value)} {T : String}
theorem keeps {h' : Heap} (c : ErrCls h C bm) (k : ∀ b o, h.get? b = some o → h'.get? b = some o) : ErrCls h' C bm := by
  obtain ⟨⟨nm, q, N, bs, hd, sn, sub, ab, col, dd, k0, k1, k2, k3, k5, e⟩, v⟩ := c
  exact ⟨⟨nm, q, N, bs, hd, sn, sub, ab, col, dd, k0, k1, k2, k3, k5, k _ _ e⟩, v⟩
theorem tail (c : ErrCls h C bm) (X : String) : bm.contains (.type X) = PySem.HandSPX.veTail.contains (.type X) := PySem.HandSPX.refsVE_contains X bm c.ve
/-- a rule that asks for the class's record alone tells a look -/
theorem look {α : Type} {t : Sem α} {r : α} (c : ErrCls h C bm) (f : ∀ {nm q N bs hd sn sub ab col dd k0 k1 k2 k3 k5} (A : Around) (Q : α → Shared → Prop) (E : Value → Shared → Prop) (hp : Heap) (g : Array GenState) (d : Drawn) (tk : Nat) (os : OsState),
    hp.get? C = some (excClassObj nm q C N bs bm hd sn sub ab col dd k0 k1 k2 k3 k5 "ValueError.__new__") → Q r ⟨hp, g, d, tk, os⟩ → wpAny M A t Q E ⟨hp, g, d, tk, os⟩) : PySem.W.Looks M h t r := by
  obtain ⟨⟨nm, q, N, bs, hd, sn, sub, ab, col, dd, k0, k1, k2, k3, k5, e⟩, v⟩ := c
  exact fun A Q E ⟨hp, g, d, tk, os⟩ k z => f A Q E hp g d tk os (k _ _ e) z
theorem isA (c : ErrCls h C bm) (b : Value) : PySem.W.Looks M h (isSubtype (.ref C) b) ((Value.ref C :: bm).contains b) := c.look fun A Q E hp g d tk os e z => wpAny_isSubtype_exc e z
theorem hangs (c : ErrCls h C bm) : PySem.W.Looks M h (isSubtype (.ref C) (.type T)) (PySem.HandSPX.veTail.contains (.type T)) := by
  rw [← c.tail T]
  exact c.isA (.type T)
theorem self (c : ErrCls h C bm) : PySem.W.Looks M h (isSubtype (.ref C) (.ref C)) true := by
  have z := c.isA (M := M) (.ref C)
  rwa [show (Value.ref C :: bm).contains (.ref C) = true by simp] at z
theorem maker (c : ErrCls h C bm) : PySem.W.Looks M h (Bind.madeBy (.ref C)) (some "ValueError.__new__") := c.look fun A Q E hp g d tk os e z => wpAny_madeBy_exc e z
theorem place (c : ErrCls h C bm) : PySem.W.Looks M h (Bind.madeHere "BaseException.__new__" (.ref C)) () := c.look fun A Q E hp g d tk os e z => wpAny_madeHere_exc PySem.F.excBase_ValueError.canon e z
/-- keywords are not asked where the error is made -/
theorem kwFree (ps : List Value) : checkBuiltinCall "ValueError.__new__" ⟨ps, kw⟩ = checkBuiltinCall "ValueError.__new__" ⟨ps, []⟩ := by kernel_rfl
theorem letNew (c : ErrCls h C bm) : PySem.W.Looks M h (checkBuiltinCall "ValueError.__new__" ⟨.ref C :: us, kw⟩) () := by
  rw [kwFree]
  exact c.look fun A Q E hp g d tk os e z => PySem.HandSPX.check_new_own PySem.F.excBase_ValueError c.tail e z
theorem letCall (c : ErrCls h C bm) : PySem.W.Looks M h (checkBuiltinCall "type.__call__" ⟨.ref C :: us, kw⟩) () := c.look fun A Q E hp g d tk os e z => wpAny_check_type_call_sub (rest := us) e z
theorem kind (c : ErrCls h C bm) : PySem.W.Looks M h (isType (.ref C)) true := c.look fun A Q E hp g d tk os e z => wpAny_bind (wpAny_loadPart_at e (wpAny_pure z))
theorem line (c : ErrCls h C bm) : PySem.W.Looks M h (mroOf (.ref C)) (.ref C :: bm) := c.look fun A Q E hp g d tk os e z => by
  unfold mroOf
  repeat (first | with_reducible refine wpAny_loadPart_at e ?_ | wp_step)
  exact z
end
section
variable {prog : Program} {w : World} {A : Around} {E : Value → Shared → Prop} {R : Result → Shared → Prop} {h : Heap} {g : Array GenState} {d : Drawn} {t : Nat} {os : OsState} {C fI : Addr} {bm us : List Value} {kw : List (Str × Value)}
/-- the built-in maker, whatever the keywords -/
theorem born (c : ErrCls h C bm) (n : us.length ≤ sizeLine) (q : R (.ok (.ret (.ref (h.objs.size + 1)))) ⟨errHp h C us, g, d, t, os⟩) :
    codeAny (model prog w) A (.builtin "ValueError.__new__" ⟨.ref C :: us, kw⟩) R ⟨h, g, d, t, os⟩ := by
  have s1 := c.hangs (M := model prog w) (T := "ValueError")
  have s2 := c.hangs (M := model prog w) (T := "AttributeError")
  have s3 := c.hangs (M := model prog w) (T := "NameError")
  have s4 := c.place (M := model prog w)
  have s5 := c.kind (M := model prog w)
  obtain ⟨⟨nm, nq, N, bs, hd, sn, sub, ab, col, dd, k0, k1, k2, k3, k5, e⟩, _⟩ := c
  refine codeAny_builtinAt PySem.F.excBase_ValueError.entry ?_
  unfold Builtin.«BaseException.__new__»
  refine PySem.wpAt_bind (PySem.wpAt_bind (PySem.wpAt_stack fun p l => PySem.wpAt_of_wpAny ?_))
  show wpAny _ _ (if String.endsWith _ _ = true then _ else _) _ _ _
  rw [if_pos PySem.F.excBase_ValueError.ends, PySem.F.excBase_ValueError.owner]
  refine wpAny_pure (PySem.wpAt_of_wpAny ?_)
  repeat (first | with_reducible refine s4.at ?_ | with_reducible refine s1.at ?_ | with_reducible refine s2.at ?_ | with_reducible refine s3.at ?_ | with_reducible refine s5.at ?_ | wp_step)
  show R _ _
  rw [Heap.size_push]
  exact q
/-- what a look tells is told behind the making, too -/
theorem old (b : Addr) (o : Obj) (e : h.get? b = some o) : (errHp h C us).get? b = some o := Heap.get?_push_of_some _ (Heap.get?_push_of_some _ e)
/-- the call of the class: its instance, then the def behind __init__, both with all that was passed -/
theorem called (c : ErrCls h C bm) (i : PySem.W.Looks (model prog w) h (typeLookup (.ref C) "__init__") (some (.ref fI))) (b : ∀ x, PySem.W.Looks (model prog w) h (bindSpecial (.ref fI) x) (.ref fI, [x])) (n : us.length ≤ sizeLine)
    (q : codeAny (model prog w) (A.under (.builtin "type.__call__" ⟨.ref C :: us, kw⟩)) (.call (.ref fI) ⟨.ref (h.objs.size + 1) :: us, kw⟩) (PySem.W.InitBack (h.objs.size + 1) R) ⟨errHp h C us, g, d, t, os⟩) :
    codeAny (model prog w) A (.call (.ref C) ⟨us, kw⟩) R ⟨h, g, d, t, os⟩ := by
  have l1 := c.line (M := model prog w)
  have l2 := c.maker (M := model prog w)
  have l3 := (c.keeps (old (C := C) (us := us))).self (M := model prog w)
  have l4 := i.keeps (old (C := C) (us := us))
  have l5 := (b (.ref (h.objs.size + 1))).keeps (old (C := C) (us := us))
  have made : (errHp h C us).get? (h.objs.size + 1) = some (errNew C h.objs.size) := by heap_get
  have ty : (⟨h, g, d, t, os⟩ : Shared).TypeIs (.ref C) "type" := by
    obtain ⟨⟨nm, nq, N, bs, hd, sn, sub, ab, col, dd, k0, k1, k2, k3, k5, e⟩, _⟩ := c
    exact ⟨_, e, rfl⟩
  have there : ∃ o, h.get? C = some o ∧ ∃ cd, o.data = .cls cd := by
    obtain ⟨⟨nm, nq, N, bs, hd, sn, sub, ab, col, dd, k0, k1, k2, k3, k5, e⟩, _⟩ := c
    exact ⟨_, e, _, rfl⟩
  obtain ⟨o, e, cd, oc⟩ := there
  refine codeAny_of_tree (wpAny_bind (PySem.W.Looks.at (r := o) (fun A Q E s k z => wpAny_loadPart_at (k _ _ e) z) ?_))
  rw [oc]
  refine wpAny_bind (wpAny_specialOf ty tc_lookup ?_)
  refine wpAny_bind (wpAny_of_eq (tc_bind (.ref C)) (wpAny_bind (wpAny_pure (wpAny_pure (a := Fin.again (.call (.builtin "type.__call__") ⟨.ref C :: us, kw⟩)) ⟨rfl, ?_⟩))))
  refine codeAny_call_builtin_at (Code.quiet_builtin _ (by decide +kernel)) entry_typeCall ((c.letCall (M := model prog w)).at ?_)
  unfold Builtin.«type.__call__»
  repeat (first | with_reducible refine l1.at ?_ | with_reducible refine l2.at ?_ | with_reducible refine wpAny_call ?_ | wp_step)
  refine codeAny_call_builtin_code (Code.quiet_builtin _ PySem.F.excBase_ValueError.quiet) ((c.letNew (M := model prog w)).at (c.born n ?_))
  have l0 : PySem.W.Looks (model prog w) (errHp h C us) (typeOf (.ref (h.objs.size + 1))) (.ref C) := fun A Q E s k z => wpAny_typeOf_ref (k _ _ made) z
  have l6 : PySem.W.Looks (model prog w) (errHp h C us) (isInstance (.ref (h.objs.size + 1)) (.ref C)) true := l0.andThen (f := fun k => isSubtype k (.ref C)) l3
  refine wpAny_bind (l6.at ?_)
  have l7 : PySem.W.Looks (model prog w) (errHp h C us) (specialOf (.ref (h.objs.size + 1)) "__init__") (some (.ref fI)) := l0.andThen (f := fun k => typeLookup k "__init__") l4
  refine wpAny_bind (wpAny_holding (wpAny_bind (l7.at (wpAny_holding (wpAny_bind (l5.at (wpAny_bind (wpAny_call (codeAny_mono q ?_)))))))))
  intro r s z
  match r, z with
  | .error x, z => exact z
  | .ok (.ret v), ⟨e1, z⟩ =>
    subst e1
    exact wpAny_pure (wpAny_pure z)
end
end ErrCls
/-! ## own exceptions as values: their __init__ stores one field -/
def spIni (K : PySem.W.Frag) (f : Str) : Sp := fun vs H Q _ => ∃ (a : Addr) (y : V) (C : Addr), vs = [.ref a, y] ∧ OexC K C ∧ PySem.W.findIn K (.ref C) f = some none ∧ H a = some (exo a C none) ∧
  ∀ dx, H dx = none → dx ≠ a → Q .non (upd (upd H dx (exd dx [(f, y)])) a (exo a C (some dx)))
theorem upd_swap {H : Hp} {a b : Addr} {o u v : HO} (h : b ≠ a) : upd (upd (upd H a o) b u) a v = upd (upd H b u) a v := by
  funext c
  by_cases e : c = a
  · rw [e, upd_same, upd_same]
  · rw [upd_ne e, upd_ne e]
    by_cases e2 : c = b
    · rw [e2, upd_same, upd_same]
    · rw [upd_ne e2, upd_ne e2, upd_ne e]
/-- an own error class, its __init__ and its one field -/
structure Oxc (P : Program) (w : World) (K : PySem.W.Frag) (mg : Str → Option Value) (base : Heap) (x f : Str) (ps : List Str) (C fI : Addr) (fd : FuncData) : Prop where
  cl : OexC K C
  at_ : mg x = some (.ref C)
  no : PySem.W.findIn K (.ref C) f = some none
  ini : PySem.W.findIn K (.ref C) "__init__" = some (some (.ref fI))
  tI : PySem.W.typeIn K (.ref fI) = some (.type "function")
  ok : FnOk P w K mg base CX0 1 fI fd ps (spIni K f)
  b0 : ∃ its : List Value, KBn K fd ps 1 [] (fun us _ => us ++ its) (fun vs _ => vs ++ [.non])
  b1 : KBn K fd ps 2 [] (fun us _ => us) (fun vs _ => vs)
  bk : KBn K fd ps 1 [f] (fun us ws => us ++ ws) (fun vs zs => vs ++ zs)
/-- the class of an own error, as the call sees it -/
theorem errCls_of {K : PySem.W.Frag} {h : Heap} {C : Addr} (T : OexC K C) (X : K.In h) : ∃ bm, ErrCls h C bm := by
  obtain ⟨nm, q, N, bs, bm, sn, sub, ab, col, dd, k0, k1, k2, k3, k5, e, v⟩ := T.cls
  exact ⟨bm, ⟨⟨nm, q, N, bs, true, sn, sub, ab, col, dd, k0, k1, k2, k3, k5, X C _ e⟩, v⟩⟩
/-- the new error stands in the ledger from its making on -/
theorem Inv.err {X : Cx} {pins : List (Addr × Obj)} {σ : L2.St} {H : Hp} {s : Shared} {C : Addr} {us : List Value} (I : Inv X pins σ H s) :
    Inv X pins σ (upd H (s.heap.objs.size + 1) (exo (s.heap.objs.size + 1) C none)) { s with heap := errHp s.heap C us } :=
  I.laid (t' := s.toks) (h' := errHp s.heap C us) (fun b o => ErrCls.old b o) (Nat.le_add_right _ 1) (exo_ok (t1 := s.heap.objs.size) (by
    have z := Heap.get?_push_size (s.heap.push (errTup us)) (o := errNew C s.heap.objs.size) rfl
    rwa [Heap.size_push] at z))
section
variable {X : Cx} {ts : Ts} {σ : L2.St} {F : Hp} {l : Led} {R : RV} {e : Expr} {x f : Str} {ps ks : List Str} {C fI : Addr} {fd : FuncData} {p pos : Pos} {k' : Nat} {g : List Value → List Value → List Value} {gV : List V → List V → List V}
/-- what an own error's making is worth: n values in a row, the keywords ks behind; y goes into the field -/
theorem run_oxc {pins : List (Addr × Obj)} {H : Hp} {s : Shared} {Q : VK} {us ws : List Value} {vs zs : List V} {n : Nat} (O : Oxc X.prog X.w X.K X.mg X.base x f ps C fI fd) (hr : RmG k' X.A) (hk : 2 ≤ k') (I : Inv X pins σ H s) (kb : KBn X.K fd ps (n + 1) ks g gV) (r : Vals vs us) (rz : Vals zs ws) (l1 : vs.length = n) (l2 : zs.length = ks.length) (hn : n ≤ 1000)
    {y : V} (hy : ∀ a, gV (.ref a :: vs) zs = [.ref a, y]) (q : ∀ a dx, H a = none → H dx = none → dx ≠ a → Q (.ref a) (upd (upd H dx (exd dx [(f, y)])) a (exo a C (some dx)))) :
    wpAny (model X.prog X.w) X.A (call (.ref C) us (ks.zip ws)) (EP X pins σ Q) X.xe s := by
  obtain ⟨bm, c⟩ := errCls_of O.cl I.kIn
  have J := Inv.err (C := C) (us := us) I
  have room : us.length ≤ sizeLine := by rw [← Paired.length r, l1]; exact Nat.le_trans hn (by decide)
  have rs := kb.rel (.cons (show RelV (.ref (s.heap.objs.size + 1)) (.ref (s.heap.objs.size + 1)) from rfl) r) rz
  have bt := kb.to _ (.ref (s.heap.objs.size + 1) :: us) ws J.kIn (congrArg Nat.succ ((Paired.length r).symm.trans l1)) ((Paired.length rz).symm.trans l2)
  have free : H (s.heap.objs.size + 1) = none := I.hok.fresh (Nat.le_add_right _ 1)
  have want : spIni X.K f (gV (.ref (s.heap.objs.size + 1) :: vs) zs) (upd H (s.heap.objs.size + 1) (exo (s.heap.objs.size + 1) C none)) (fun v H2 => v = .non ∧ Q (.ref (s.heap.objs.size + 1)) H2) (fun _ _ _ => False) := by
    refine ⟨_, y, C, hy _, O.cl, O.no, upd_same, fun dx e1 e2 => ⟨rfl, ?_⟩⟩
    rw [upd_swap e2]
    exact q _ dx free (by rwa [upd_ne e2] at e1) e2
  have deep : Room 1 (X.A.under (.builtin "type.__call__" ⟨.ref C :: us, ks.zip ws⟩)) := (hr.mono hk).r.make C us (ks.zip ws)
  have go := O.ok.run _ X.stack _ _ _ _ _ _ _ deep (J.env0.make C us (ks.zip ws)) bt rs want
  refine wpAny_call (c.called (PySem.W.looks_findIn I.kIn O.ini) (fun a => PySem.W.bind_fn I.kIn a O.tI) room (codeAny_mono go fun res s' z => ?_))
  match res, z with
  | .ok (.ret u), z =>
    obtain ⟨v, H', J', rv, rfl, z⟩ := J.after z
    exact ⟨rv, .ref (s.heap.objs.size + 1), H', J', rfl, z⟩
abbrev OX (a C d : Addr) (f : Str) (y : V) (l : Led) : Led := (a, exo a C (some d)) :: (d, exd d [(f, y)]) :: l
theorem exd_tbl {e : Addr} {fs : List (Str × V)} {ps : Array Value} : exd e fs ≠ .tbl ps := fun z => by
  have z' : HO.ext _ = HO.tbl ps := z
  cases z'
theorem SH.ox {H : Hp} {a dx : Addr} {y : V} (S : SH ts F H l) (h1 : H a = none) (h2 : H dx = none) (h3 : dx ≠ a) : SH ts F (upd (upd H dx (exd dx [(f, y)])) a (exo a C (some dx))) (OX a C dx f y l) :=
  (S.alloc h2 (fun _ => exd_tbl)).alloc (by rw [upd_ne (Ne.symm h3)]; exact h1) (fun ps => exo_tbl)
theorem ex_oxc1 (O : Oxc X.prog X.w X.K X.mg X.base x f ps C fI fd) (hr : RmG k' X.A) (hk : 2 ≤ k') (hg : Gl X x) (hdb : (x == ("__debug__" : Str)) = false) (he : starEach [e] X.env = (false, eval e X.env) :: starEach [] X.env) (hpl : (backTo pos (starEach [] X.env)).any (·.1) = false)
    (h : EA X ts [e] σ F l fun vs F1 l1 => ∃ y, vs = [y] ∧ ∀ a d, R (.ref a) F1 (OX a C d f y l1)) : EX X ts (.Call (.Name x p) [e] [] pos) σ F l R := by
  refine fun H S pins s I => ?_
  refine wpAny_Call_Name_kw (ld_glob I hg O.at_ ?_ hdb)
  refine PySem.W.callWith_K (h₀ := X.base) I.ok.mod.kin O.cl.kC (thn ((pa_W X [e]).run pos pins s σ H _ I (h H S)) fun us s1 ⟨vs, H1, I1, r1, F1, l1, S1, y, e1, q⟩ => ⟨I1.kIn, ?_⟩) he hpl
  subst e1
  exact run_oxc (ws := []) (zs := []) (n := 1) O hr hk I1 O.b1 r1 .nil rfl rfl (by decide) (fun a => rfl) fun a dx h1 h2 h3 => ⟨F1, _, S1.ox h1 h2 h3, q a dx⟩
theorem ex_oxc0 (O : Oxc X.prog X.w X.K X.mg X.base x f ps C fI fd) (hr : RmG k' X.A) (hk : 2 ≤ k') (hg : Gl X x) (hdb : (x == ("__debug__" : Str)) = false)
    (h : ∀ a d, R (.ref a) F (OX a C d f .non l)) : EX X ts (.Call (.Name x p) [] [] pos) σ F l R := by
  refine fun H S pins s I => ?_
  refine wpAny_Call_Name_kw (ld_glob I hg O.at_ ?_ hdb)
  obtain ⟨its, kb⟩ := O.b0
  exact PySem.W.callWith_K0 I.kIn O.cl.kC (run_oxc (us := []) (vs := []) (ws := []) (zs := []) (n := 0) O hr hk I kb .nil .nil rfl rfl (by decide) (fun a => rfl) fun a dx h1 h2 h3 => ⟨F, _, S.ox h1 h2 h3, h a dx⟩)
theorem ex_oxcK {kp : Pos} (O : Oxc X.prog X.w X.K X.mg X.base x f ps C fI fd) (hr : RmG k' X.A) (hk : 2 ≤ k') (hg : Gl X x) (hdb : (x == ("__debug__" : Str)) = false)
    (hall : (backToKw pos (keywordEach [⟨some f, e, kp⟩] X.env)).all (·.1.isSome) = true) (hks : (backToKw pos (keywordEach [⟨some f, e, kp⟩] X.env)).filterMap (·.1) = [f])
    (hpl : ((backTo pos (starEach [] X.env)).any (·.1) || (backToKw pos (keywordEach [⟨some f, e, kp⟩] X.env)).any (·.1.isNone)) = false)
    (h : EX X ts e σ F l fun y F1 l1 => ∀ a d, R (.ref a) F1 (OX a C d f y l1)) : EX X ts (.Call (.Name x p) [] [⟨some f, e, kp⟩] pos) σ F l R := by
  refine fun H S pins s I => ?_
  refine wpAny_Call_Name_kw (ld_glob I hg O.at_ ?_ hdb)
  refine PySem.W.callWith_KW0 (h₀ := X.base) I.ok.mod.kin O.cl.kC hall ?_ hpl
  refine thn ((pk_cons (nm := some f) (kpos := kp) (pe_W X e) pk_nil).run pos pins s σ H (fun zs H' => ∃ y F1 l1, zs = [y] ∧ SH ts F1 H' l1 ∧ ∀ a d, R (.ref a) F1 (OX a C d f y l1)) I ((h H S).mono fun v H' ⟨F1, l1, S1, q⟩ => ⟨v, F1, l1, rfl, S1, q⟩)) fun ws s2 ⟨zs, H2, I2, rz, y, F1, l1, e1, S1, q⟩ => ⟨I2.kIn, ?_⟩
  subst e1
  rw [hks]
  exact run_oxc (us := []) (vs := []) (n := 0) O hr hk I2 O.bk .nil rz rfl rfl (by decide) (fun a => rfl) fun a dx h1 h2 h3 => ⟨F1, _, S1.ox h1 h2 h3, q a dx⟩
def InE (F : Hp) (l : Led) (a : Addr) (o : HO) : Prop := F a = some o ∨ (a, o) ∈ l
theorem InE.at_ {H : Hp} {a : Addr} {o : HO} (h : InE F l a o) (S : SH ts F H l) : H a = some o := by
  rcases h with h | h
  · exact S.ext _ _ h
  · exact (S.at_ _ h).1
/-- an own error with its field -/
structure XO (K : PySem.W.Frag) (F : Hp) (l : Led) (a C : Addr) (f : Str) (y : V) : Prop where
  ex : ∃ d, InE F l a (exo a C (some d)) ∧ InE F l d (exd d [(f, y)])
  no : PySem.W.findIn K (.ref C) f = some none
theorem ex_field {o : Expr} (hb : attributeBase o f X.env (eval o X.env) = eval o X.env) (h : EX X ts o σ F l fun x F1 l1 => ∃ a C y, x = .ref a ∧ XfC X.K C ∧ XO X.K F1 l1 a C f y ∧ R y F1 l1) : EX X ts (.Attribute o f pos) σ F l R := by
  refine fun H S pins s I => ?_
  refine attr_of hb (thn (h H S pins s I) fun u s1 hh => ?_)
  obtain ⟨x, H1, I1, rx, F1, l1, S1, a, C, y, ex, T, ⟨⟨d, ea, ed⟩, hno⟩, q⟩ := hh
  subst ex
  obtain rfl : u = Value.ref a := rx
  obtain ⟨t1, ho⟩ := exo_at I1.hok (ea.at_ S1)
  obtain ⟨mA, hns, rel⟩ := exd_at I1.hok (ed.at_ S1)
  obtain ⟨od, hod, hl⟩ := lookIn_ns hns
  obtain ⟨u, hu, ru⟩ := RelO.some_of (v := y) (o := mA f) (by
    have := rel f
    rw [lookup_put, if_pos rfl] at this
    exact this)
  have J : PySem.W.InstAt s1.heap a { cls := .ref C, dict := some d, data := .fields #[.ref t1, .none, .none, .none, .bool false, .none] } C (some od) := ⟨ho, rfl, rfl, hod⟩
  exact HandSPX.exc_get I1.kIn J T.ga T.gg T.exC (PySem.W.findObj_own T.hdC hno rfl (by rw [hl, hu])) (handed_of ru) ⟨y, H1, I1.tok _, ru, F1, l1, S1, q⟩
end
end TL
namespace TL
open PySem PySem.Spec L2
/-- isinstance of an own error, by the library's word for it -/
theorem kit_of {K : PySem.W.Frag} {x D : Addr} {ox : Obj} {od : Option Obj} (T : ExcC K D) : PySem.W.KitX K (.ref x) (.ref D) (fun h => PySem.W.InstAt h x ox D od) :=
  PySem.W.kitx_exc (by
    obtain ⟨cd, e, _⟩ := PySem.W.any_some T.hd
    rw [e]
    rfl) T.hg T.hk T.hs T.ha T.hn T.ht T.hm
section
variable {X : Cx} {ts : Ts} {F : Hp} {l : Led} {R : RV} {C a : Addr} {f : Str} {y c : V} {cv : Value} {b : Bool}
theorem cg_isE (T : ExcC X.K C) (h : XO X.K F l a C f y) (hcv : ∀ u, RelV c u → u = cv) (e : PySem.W.kitOne X.K (.ref C) cv = some b) (q : R (.bl b) F l) : CG X ts (.builtin "isinstance") [.ref a, c] F l R := by
  intro H S pins s σ us I r
  obtain ⟨⟨d, ea, ed⟩, _⟩ := h
  obtain ⟨u1, u2, rfl, r1, r2⟩ := vals2 r
  obtain rfl : u1 = Value.ref a := r1
  have ec := hcv _ r2
  subst ec
  obtain ⟨t1, ho⟩ := exo_at I.hok (ea.at_ S)
  obtain ⟨mA, hns, rel⟩ := exd_at I.hok (ed.at_ S)
  obtain ⟨od, hod, hl⟩ := lookIn_ns hns
  have J : PySem.W.InstAt s.heap a { cls := .ref C, dict := some d, data := .fields #[.ref t1, .none, .none, .none, .bool false, .none] } C (some od) := ⟨ho, rfl, rfl, hod⟩
  exact PySem.W.kia_one (kit_of T) I.kIn J e (fun z => nomatch z) fun tk => ⟨.bl b, H, I.kept (t' := tk) fun _ _ z => z, rfl, F, l, S, q⟩
theorem cg_isT {x : V} {t u : Value} (hx : ∀ H, SH ts F H l → TyX X.K H x t) (k : ClsV c u) (e : PySem.W.kitOne X.K t u = some b) (q : R (.bl b) F l) : CG X ts (.builtin "isinstance") [x, c] F l R :=
  .of call_isi fun H S => ⟨x, c, t, u, b, rfl, k, hx H S, e, fin S q⟩
end
end TL

namespace TL
open PySem PySem.Spec L2
section
variable {X : Cx} {ts : Ts} {σ : L2.St} {F : Hp} {l : Led} {R : RV} {e : Expr} {x f : Str} {C a : Addr} {p pos : Pos} {c : V} {cv : Value} {b : Bool}
/-- an own error without an __init__: it stands in the ledger behind its making -/
theorem Inv.bareErr {pins : List (Addr × Obj)} {H : Hp} {s : Shared} {h' : Heap} {cls : Value} {us : List Value} (I : Inv X pins σ H s) (m : Heap.MadeExcOf s.heap h' a cls us) : H a = none ∧ Inv X pins σ (upd H a (ExO cls a)) { s with heap := h' } := by
  obtain ⟨t, e, _, _⟩ := m.there
  have n := I.hok.gone m.new
  exact ⟨n, I.laidN m.keeps m.new n (exO_ok e ⟨rfl, rfl⟩ rfl rfl rfl (show 4 < 6 by decide))⟩
theorem exO_tbl {cls : Value} (ps : Array Value) : ExO cls a ≠ .tbl ps := fun z => nomatch (show (HO.ext _) = HO.tbl ps from z)
/-- .. made without arguments -/
theorem ex_exc0 (q : PySem.W.excIn X.K C He.veBase "ValueError.__new__" = true) (gC : X.mg x = some (.ref C)) (kC : PySem.W.keepIn X.K (.ref C) = true) (hg : Gl X x) (hdb : (x == ("__debug__" : Str)) = false)
    (h : ∀ a, R (.ref a) F ((a, ExO (.ref C) a) :: l)) : EX X ts (.Call (.Name x p) [] [] pos) σ F l R := fun H S pins s I => by
  obtain ⟨_, _, _, _, _, _, _, _, _, _, _, _, _, _, _, _, mN, hC, hN, hni, T⟩ := exc_obj I.kIn q
  have made := PySem.wpAny_call_exc_subT (prog := X.prog) (w := X.w) (A := X.A) (E := X.xe) (rest := []) (Q := EP X pins σ (QR ts R)) PySem.F.excBase_ValueError T hC hN hni (fun h' a m => by
    obtain ⟨n, J⟩ := Inv.bareErr I m
    exact ⟨.ref a, _, J, rfl, F, _, S.alloc n exO_tbl, h a⟩) (Nat.zero_le _)
  exact wpAny_Call_Name_kw (ld_glob I hg gC (PySem.W.callWith_K0 I.kIn kC made) hdb)
theorem cg_isO (T : ExcC X.K C) (h : InE F l a (ExO (.ref C) a)) (hcv : ∀ u, RelV c u → u = cv) (e : PySem.W.kitOne X.K (.ref C) cv = some b) (q : R (.bl b) F l) : CG X ts (.builtin "isinstance") [.ref a, c] F l R := by
  intro H S pins s σ us I r
  obtain ⟨u1, u2, rfl, r1, r2⟩ := vals2 r
  obtain rfl : u1 = Value.ref a := r1
  have ec := hcv _ r2
  subst ec
  obtain ⟨⟨oe, vs, ho, hz, hd, _⟩, _⟩ := (show ObjOk X.prog X.w H s.heap a (ExO (.ref C) a) from I.hok a _ (h.at_ S))
  have J : PySem.W.InstAt s.heap a oe C none := by
    obtain ⟨oc, od, oda, osl⟩ := oe
    obtain ⟨h1, h2⟩ := hz
    dsimp only at h1 h2 hd
    subst h1 h2 hd
    exact ⟨ho, rfl, rfl, trivial⟩
  exact PySem.W.kia_one (kit_of T) I.kIn J e (fun z => nomatch z) fun tk => ⟨.bl b, H, I.kept (t' := tk) fun _ _ z => z, rfl, F, l, S, q⟩
end
/-! ## what the head tells of own errors -/
/-- .. an own class over ValueError whose instances have a dict -/
def oexB (K : PySem.W.Frag) (C : Addr) : Bool := match K.lookup C with
  | some ⟨.type "type", _, .cls ⟨_, _, .ref D :: bm, _, _, true, _, _, _, _, false⟩, ⟨[_, _, _, _, some (.builtin "ValueError.__new__"), _]⟩⟩ => decide (D = C) && PySem.HandSPX.refsVE bm
  | _ => false
theorem oexB_ok {K : PySem.W.Frag} {C : Addr} (h : oexB K C = true) : ∃ nm q N bs bm sn sub ab col dd k0 k1 k2 k3 k5, K.lookup C = some (excClassObj nm q C N bs bm true sn sub ab col dd k0 k1 k2 k3 k5 "ValueError.__new__") ∧ PySem.HandSPX.refsVE bm = true := by
  unfold oexB at h
  split at h
  · next e =>
    obtain ⟨h1, h2⟩ := Bool.and_eq_true_iff.mp h
    obtain rfl := of_decide_eq_true h1
    exact ⟨_, _, _, _, _, _, _, _, _, _, _, _, _, _, _, e, h2⟩
  · cases h
def dB (a b : Option (Option Value)) : Bool := decide (a = b)
/-- of the class at C: it is an own error, asked by the usual ways -/
def ecB (K : PySem.W.Frag) (C : Addr) : Bool :=
  dB (PySem.W.findIn K (.ref C) "__getattribute__") (some (some (.builtin "BaseException.__getattribute__"))) && (dB (PySem.W.findIn K (.ref C) "__getattr__") (some none) && (decide (PySem.W.subIn K (.ref C) (.type "BaseException") = some true) && (PySem.W.hasDictIn K C &&
  (dB (PySem.W.findIn K (.ref C) "__class__") (some (some (.builtin "object.__class__"))) && (dB (PySem.W.specialIn K (.builtin "object.__class__") "__get__") (some (some (.builtin "getset_descriptor.__get__"))) && (decide (PySem.W.takesIn K (.builtin "object.__class__") = some true) && decide (PySem.W.mroIn K C (.type "object") = some true)))))))
theorem ecB_ok {K : PySem.W.Frag} {C : Addr} (h : ecB K C = true) : ExcC K C ∧ XfC K C := by
  unfold ecB dB at h
  simp only [Bool.and_eq_true, decide_eq_true_eq] at h
  obtain ⟨h1, h2, h3, h4, h5, h6, h7, h8⟩ := h
  exact ⟨⟨h1, h2, h3, h4, h5, h6, h7, h8⟩, ⟨h1, h2, h3, h4⟩⟩
/-- .. with an __init__ that stores the field f -/
def oxB (K : PySem.W.Frag) (x f : Str) : Bool :=
  oexB K (He.ga K x) && (dB (PySem.W.findIn K (.ref (He.ga K x)) "__setattr__") (some (some (.builtin "object.__setattr__"))) && (decide (PySem.W.typeIn K (.ref (He.ga K x)) = some (.type "type")) && (PySem.W.keepIn K (.ref (He.ga K x)) && (dB (PySem.W.findIn K (.ref (He.ga K x)) f) (some none) &&
  (dB (PySem.W.findIn K (.ref (He.ga K x)) "__init__") (some (some (.ref (He.ma K (He.ga K x) "__init__")))) && (decide (PySem.W.typeIn K (.ref (He.ma K (He.ga K x) "__init__")) = some (.type "function")) && ecB K (He.ga K x)))))))
structure OxF (K : PySem.W.Frag) (x f : Str) : Prop where
  cl : OexC K (He.ga K x)
  no : PySem.W.findIn K (.ref (He.ga K x)) f = some none
  ini : PySem.W.findIn K (.ref (He.ga K x)) "__init__" = some (some (.ref (He.ma K (He.ga K x) "__init__")))
  tI : PySem.W.typeIn K (.ref (He.ma K (He.ga K x) "__init__")) = some (.type "function")
  ec : ExcC K (He.ga K x)
  xf : XfC K (He.ga K x)
theorem oxB_ok {K : PySem.W.Frag} {x f : Str} (h : oxB K x f = true) : OxF K x f := by
  unfold oxB dB at h
  simp only [Bool.and_eq_true, decide_eq_true_eq] at h
  obtain ⟨h1, h2, h3, h4, h5, h6, h7, h8⟩ := h
  obtain ⟨e1, e2⟩ := ecB_ok h8
  exact ⟨⟨oexB_ok h1, h2, e1.hs, h3, h4⟩, h5, h6, h7, e1, e2⟩
/-- isinstance among the classes of xs: each is of itself alone -/
def kindsB (K : PySem.W.Frag) (xs : List Str) : Bool := xs.all fun x => xs.all fun y => decide (PySem.W.kitOne K (.ref (He.ga K x)) (.ref (He.ga K y)) = some (decide (x = y)))
theorem kindsB_ok {K : PySem.W.Frag} {xs : List Str} (h : kindsB K xs = true) {x y : Str} (hx : x ∈ xs) (hy : y ∈ xs) : PySem.W.kitOne K (.ref (He.ga K x)) (.ref (He.ga K y)) = some (decide (x = y)) :=
  of_decide_eq_true (List.all_eq_true.mp (List.all_eq_true.mp h x hx) y hy)
/-- .. all of the class T -/
def ofB (K : PySem.W.Frag) (T : Value) (b : Bool) (xs : List Str) : Bool := xs.all fun x => decide (PySem.W.kitOne K (.ref (He.ga K x)) T = some b)
theorem ofB_ok {K : PySem.W.Frag} {T : Value} {b : Bool} {xs : List Str} (h : ofB K T b xs = true) {x : Str} (hx : x ∈ xs) : PySem.W.kitOne K (.ref (He.ga K x)) T = some b := of_decide_eq_true (List.all_eq_true.mp h x hx)
end TL

namespace TL
open PySem PySem.Spec L2
section
variable {X : Cx} {ts : Ts} {F : Hp} {l : Led} {R : RV} {v : V} {d : PyData} {k : Nat}
theorem cg_repr (hr : RmG k X.A) (hd : Dt X.K F l v d) (h1 : d.showable = true) (h2 : d.hasDict = false) (h3 : d.depth ≤ 64) (h4 : d.shown.length ≤ sizeLine) (q : R (.str d.shown) F l) : CG X ts (.builtin "repr") [v] F l R := by
  intro H S pins s σ us I r
  cases r with
  | @cons _ u _ us' ru rr =>
  cases rr
  obtain ⟨as, rd⟩ := Dp.reads I d v u (hd.dp S) ru
  have fin : ∀ {h' : Heap} {tk : Nat} {t : Tok}, (∀ b o, s.heap.get? b = some o → h'.get? b = some o) → EP X pins σ (QR ts R) (.str d.shown t) { s with heap := h', toks := tk } := fun {h' tk t} hk => ⟨.str d.shown, H, I.kept (t' := tk) hk, ⟨t, rfl⟩, F, l, S, q⟩
  have un := hr.r.un
  cases rd with
  | none => exact PySem.P.repr_of_none (fin fun _ _ z => z)
  | bool b => exact PySem.P.repr_of_bool (fin fun _ _ z => z)
  | int i t => exact PySem.P.repr_of_int (of_decide_eq_true h1) (fin fun _ _ z => z)
  | str x t => exact PySem.P.repr_of_str (fin fun _ _ z => z) h4
  | list e1 e2 e3 e4 => exact repr_of_reads' (.list e1 e2 e3 e4) h1 (PyData.noDict_hsm h2) hr.g (by omega) (fun _ _ z => z) (fun h' u tk hk => fin hk) h4
  | tuple e1 e2 e3 e4 => exact repr_of_reads' (.tuple e1 e2 e3 e4) h1 (PyData.noDict_hsm h2) hr.g (by omega) (fun _ _ z => z) (fun h' u tk hk => fin hk) h4
  | dict e1 e2 e3 e4 e5 => cases h2
theorem og_mul_str {x : Str} {n : Int} (hok : MulOk x n) (q : R (.str (Txt.mul x n)) F l) : OG X ts (binaryOp .Mult) (.str x) (.int n) F l R := by
  intro H S pins s σ v u I rx ry
  obtain ⟨t, rfl⟩ := rx
  obtain ⟨t', rfl⟩ := ry
  exact PySem.SB.mul hok fun t' k => ⟨.str _, H, I.tok _, ⟨_, rfl⟩, F, l, S, q⟩
/-- data whose repr is asked -/
structure DOk (d : PyData) : Prop where
  sh : d.showable = true
  nd : d.hasDict = false
  dp : d.depth ≤ 64
  ln : d.shown.length ≤ sizeLine
theorem cg_reprD (hr : RmG k X.A) (hd : Dt X.K F l v d) (o : DOk d) (q : R (.str d.shown) F l) : CG X ts (.builtin "repr") [v] F l R := cg_repr hr hd o.sh o.nd o.dp o.ln q
theorem dok_non : DOk .none := ⟨rfl, rfl, by decide, by decide +kernel⟩
theorem dok_bl {b : Bool} : DOk (.bool b) := ⟨rfl, rfl, by show 0 ≤ 64; decide, by cases b <;> decide +kernel⟩
theorem log_small {n : Int} (h : n.natAbs < 2 ^ 100) : n.natAbs.log2 < 1920 := by
  by_cases h0 : n.natAbs = 0
  · rw [h0]; decide
  · exact Nat.lt_trans ((Nat.log2_lt h0).mpr h) (by decide)
theorem len_small {n : Int} (h : n.natAbs < 2 ^ 100) : (Str.ofString (toString n)).length ≤ 1921 := by
  rw [ofString_length]
  exact int_text_length_le (k := 1920) (by decide) (log_small h)
theorem dok_int {n : Int} (h : n.natAbs < 2 ^ 100) : DOk (.int n) := ⟨decide_eq_true (log_small h), rfl, by show 0 ≤ 64; decide, int_text_fits (log_small h)⟩
end

/-! ## own errors in lists -/
theorem Sub.skip {t l : Led} {e : Addr × HO} (h : Sub t l) : Sub t (e :: l) := h.trans Sub.tail
def OxE (P : Program) (w : World) (K : PySem.W.Frag) (mg : Str → Option Value) (base : Heap) (x : Str) : Prop := ∃ fd, Oxc P w K mg base x "value" ["self", "value"] (He.ga K x) (He.ma K (He.ga K x) "__init__") fd
section
variable {X : Cx} {ts : Ts} {σ : L2.St} {F : Hp} {l : Led} {R : RV} {e : Expr} {x : Str} {p pos : Pos} {k' : Nat} {C a : Addr} {c : V} {cv : Value} {b : Bool}
theorem ex_oxE1 (O : OxE X.prog X.w X.K X.mg X.base x) (hr : RmG k' X.A) (hk : 2 ≤ k') (hg : Gl X x) (hdb : (x == ("__debug__" : Str)) = false) (he : starEach [e] X.env = (false, eval e X.env) :: starEach [] X.env) (hpl : (backTo pos (starEach [] X.env)).any (·.1) = false)
    (h : EX X ts e σ F l fun y F1 l1 => ∀ a d, R (.ref a) F1 (OX a (He.ga X.K x) d "value" y l1)) : EX X ts (.Call (.Name x p) [e] [] pos) σ F l R := by
  obtain ⟨fd, O⟩ := O
  exact ex_oxc1 O hr hk hg hdb he hpl (ea_cons he (ex_mono h fun v F' l' q => ea_nil ⟨v, rfl, q⟩))
theorem ex_oxE0 (O : OxE X.prog X.w X.K X.mg X.base x) (hr : RmG k' X.A) (hk : 2 ≤ k') (hg : Gl X x) (hdb : (x == ("__debug__" : Str)) = false)
    (h : ∀ a d, R (.ref a) F (OX a (He.ga X.K x) d "value" .non l)) : EX X ts (.Call (.Name x p) [] [] pos) σ F l R := by
  obtain ⟨fd, O⟩ := O
  exact ex_oxc0 O hr hk hg hdb h
theorem ex_oxEK {kp : Pos} (O : OxE X.prog X.w X.K X.mg X.base x) (hr : RmG k' X.A) (hk : 2 ≤ k') (hg : Gl X x) (hdb : (x == ("__debug__" : Str)) = false)
    (hall : (backToKw pos (keywordEach [⟨some "value", e, kp⟩] X.env)).all (·.1.isSome) = true) (hks : (backToKw pos (keywordEach [⟨some "value", e, kp⟩] X.env)).filterMap (·.1) = (["value"] : List Str))
    (hpl : ((backTo pos (starEach [] X.env)).any (·.1) || (backToKw pos (keywordEach [⟨some "value", e, kp⟩] X.env)).any (·.1.isNone)) = false)
    (h : EX X ts e σ F l fun y F1 l1 => ∀ a d, R (.ref a) F1 (OX a (He.ga X.K x) d "value" y l1)) : EX X ts (.Call (.Name x p) [] [⟨some "value", e, kp⟩] pos) σ F l R := by
  obtain ⟨fd, O⟩ := O
  exact ex_oxcK O hr hk hg hdb hall hks hpl h
theorem ex_globC {C : Addr} (hg : Gl X x) (hm : X.mg x = some (.ref C)) (hd : (x == ("__debug__" : Str)) = false) (h : R (.ref C) F l) : EX X ts (.Name x pos) σ F l R := ex_glob (v := .ref C) (u := .ref C) hg hm (show Value.ref C = Value.ref C from rfl) h hd
/-- an object of the error class at c, as isinstance asks it -/
def Isi (K : PySem.W.Frag) (F : Hp) (l : Led) (a c : Addr) : Prop := ExcC K c ∧ ((∃ f y, XO K F l a c f y) ∨ InE F l a (ExO (.ref c) a))
theorem cg_isX {D : Addr} (h : Isi X.K F l a C) (e : PySem.W.kitOne X.K (.ref C) (.ref D) = some b) (q : R (.bl b) F l) : CG X ts (.builtin "isinstance") [.ref a, .ref D] F l R := by
  obtain ⟨T, ⟨f, y, h⟩ | h⟩ := h
  · exact cg_isE T h (fun u r => r) e q
  · exact cg_isO T h (fun u r => r) e q
theorem cg_isY {D : String} (h : Isi X.K F l a C) (e : PySem.W.kitOne X.K (.ref C) (.type D) = some b) (q : R (.bl b) F l) : CG X ts (.builtin "isinstance") [.ref a, .ty D] F l R := by
  obtain ⟨T, ⟨f, y, h⟩ | h⟩ := h
  · exact cg_isE T h (fun u r => r) e q
  · exact cg_isO T h (fun u r => r) e q
/-- a built-in type by its name -/
theorem ex_ty {D : String} (hg : Gl X x) (hm : X.mg x = none) (hv : bootBuiltins x = some (.type D)) (hn : x ≠ "__name__") (hdb : (x == ("__debug__" : Str)) = false) (h : R (.ty D) F l) : EX X ts (.Name x pos) σ F l R := by
  refine fun H S pins s I => ?_
  exact ld_blt I hg hm hv (hn := hn) (hd := hdb) ⟨.ty D, H, I, rfl, F, l, S, h⟩
end
/-- the errors named xs, each with the field y -/
def MadeA (K : PySem.W.Frag) (F : Hp) (l : Led) (y : V) : List Str → List V → Prop
  | [], [] => True
  | x :: xs, v :: vs => (∃ a, v = .ref a ∧ XO K F l a (He.ga K x) "value" y) ∧ MadeA K F l y xs vs
  | _, _ => False
theorem InE.mono {F : Hp} {l l' : Led} {a : Addr} {o : HO} (h : InE F l a o) (s : ∀ q ∈ l, q ∈ l') : InE F l' a o := h.imp id (s _)
theorem XO.mono {K : PySem.W.Frag} {F : Hp} {l l' : Led} {a C : Addr} {f : Str} {y : V} (h : XO K F l a C f y) (s : ∀ q ∈ l, q ∈ l') : XO K F l' a C f y := ⟨let ⟨d, h1, h2⟩ := h.ex; ⟨d, h1.mono s, h2.mono s⟩, h.no⟩
theorem Isi.mono {K : PySem.W.Frag} {F : Hp} {l l' : Led} {a C : Addr} (h : Isi K F l a C) (s : ∀ q ∈ l, q ∈ l') : Isi K F l' a C := ⟨h.1, h.2.imp (fun ⟨f, y, z⟩ => ⟨f, y, z.mono s⟩) fun z => z.mono s⟩
theorem MadeA.mono {K : PySem.W.Frag} {F : Hp} {l l' : Led} {y : V} (s : ∀ q ∈ l, q ∈ l') : ∀ {xs : List Str} {vs : List V}, MadeA K F l y xs vs → MadeA K F l' y xs vs
  | [], [], h => h
  | _ :: _, _ :: _, ⟨⟨a, e, h⟩, r⟩ => ⟨⟨a, e, h.mono s⟩, MadeA.mono s r⟩
  | [], _ :: _, h => h.elim
  | _ :: _, [], h => h.elim
theorem MadeA.get {K : PySem.W.Frag} {F : Hp} {l : Led} {y : V} : ∀ {xs : List Str} {vs : List V} {i : Nat} {v : V}, MadeA K F l y xs vs → vs[i]? = some v → ∃ x a, xs[i]? = some x ∧ v = .ref a ∧ XO K F l a (He.ga K x) "value" y
  | [], [], _, _, _, e => by simp at e
  | x :: xs, u :: vs, 0, v, ⟨⟨a, e1, h⟩, _⟩, e => by
    have z : u = v := by simpa using e
    subst z
    exact ⟨x, a, rfl, e1, h⟩
  | x :: xs, u :: vs, i + 1, v, ⟨_, r⟩, e => by
    obtain ⟨y, b, h1, h2, h3⟩ := MadeA.get (i := i) (v := v) r (by simpa using e)
    exact ⟨y, b, by simpa using h1, h2, h3⟩
  | [], _ :: _, _, _, h, _ => h.elim
  | _ :: _, [], _, _, h, _ => h.elim
theorem MadeA.len {K : PySem.W.Frag} {F : Hp} {l : Led} {y : V} : ∀ {xs : List Str} {vs : List V}, MadeA K F l y xs vs → vs.length = xs.length
  | [], [], _ => rfl
  | _ :: _, _ :: _, ⟨_, r⟩ => congrArg Nat.succ (MadeA.len r)
  | [], _ :: _, h => h.elim
  | _ :: _, [], h => h.elim
end TL

namespace TL
open PySem PySem.Spec L2
section
variable {X : Cx} {ts : Ts} {σ : L2.St} {F F' : Hp} {l l' : Led} {R : RV} {RT : RB} {e : Expr} {es : List Expr} {st : Stmt} {sts : List Stmt} {D : EndsL} {a : Addr} {o : HO}
/-! ## what the ledger itself tells -/
theorem ex_know (h : (∃ H, SH ts F H l) → EX X ts e σ F l R) : EX X ts e σ F l R := fun H S => h ⟨H, S⟩ H S
theorem et_know (h : (∃ H, SH ts F H l) → ET X ts e σ F l RT) : ET X ts e σ F l RT := fun H S => h ⟨H, S⟩ H S
theorem ew_know (h : (∃ H, SH ts F H l) → EW X ts e σ F l RT) : EW X ts e σ F l RT := fun H S => h ⟨H, S⟩ H S
theorem bx_know (h : (∃ H, SH ts F H l) → BX X ts sts σ F l D) : BX X ts sts σ F l D := fun H S => h ⟨H, S⟩ H S
theorem sx_know (h : (∃ H, SH ts F H l) → SX X ts st σ F l D) : SX X ts st σ F l D := fun H S => h ⟨H, S⟩ H S
theorem ew_ent (h : Ent ts F l F' l') (q : EW X ts e σ F' l' RT) : EW X ts e σ F l RT := fun H S => q H (h H S)
theorem sx_ent (h : Ent ts F l F' l') (q : SX X ts st σ F' l' D) : SX X ts st σ F l D := fun H S => q H (h H S)
/-- fewer known, the names being different ones -/
theorem ent_mem (hs : ∀ q ∈ l', q ∈ l) (nd : (l'.map (·.1)).Nodup) : Ent ts F l F l' := fun _ S => S.drop hs nd
theorem mem_set_ne {L : Led} {i : Nat} {p q x : Addr × HO} (h : L[i]? = some p) (hq : q ∈ L) (ne : q ≠ p) : q ∈ L.set i x := by
  obtain ⟨j, hj, e⟩ := List.getElem_of_mem hq
  have ij : i ≠ j := by
    rintro rfl
    rw [List.getElem?_eq_getElem hj, e] at h
    exact ne (Option.some.inj h)
  have : (L.set i x)[j]? = some q := by rw [List.getElem?_set_ne ij, List.getElem?_eq_getElem hj, e]
  exact List.mem_of_getElem? this
theorem exo_lst {e C : Addr} {d : Option Addr} {xs : List V} : exo e C d ≠ .lst xs := fun z => by
  have z' : HO.ext _ = HO.lst xs := z
  cases z'
theorem exd_lst {e : Addr} {fs : List (Str × V)} {xs : List V} : exd e fs ≠ .lst xs := fun z => by
  have z' : HO.ext _ = HO.lst xs := z
  cases z'
theorem XO.mono2 {K : PySem.W.Frag} {C : Addr} {f : Str} {y : V} (h : XO K F l a C f y) (s : ∀ q ∈ l, (∀ xs, q.2 ≠ .lst xs) → q ∈ l') : XO K F l' a C f y := by
  obtain ⟨⟨d, h1, h2⟩, h3⟩ := h
  exact ⟨⟨d, h1.imp id fun z => s _ z fun xs => exo_lst, h2.imp id fun z => s _ z fun xs => exd_lst⟩, h3⟩
theorem MadeA.mono2 {K : PySem.W.Frag} {y : V} (s : ∀ q ∈ l, (∀ xs, q.2 ≠ .lst xs) → q ∈ l') : ∀ {xs : List Str} {vs : List V}, MadeA K F l y xs vs → MadeA K F l' y xs vs
  | [], [], h => h
  | _ :: _, _ :: _, ⟨⟨a, e, h⟩, r⟩ => ⟨⟨a, e, h.mono2 s⟩, MadeA.mono2 s r⟩
  | [], _ :: _, h => h.elim
  | _ :: _, [], h => h.elim
theorem og_notInD {x : V} {d : PyData} {ds : List PyData} {p : Addr} {b : Bool} (hu : X.A.units + 65 < cLine) (h1 : Dt X.K F l x d) (h2 : Dt X.K F l (.ref p) (.list ds)) (s1 : SeqAt.shaped d = true) (s2 : SeqAt.shaped (.list ds) = true) (q : R (.bl (!ds.any fun e => PyData.eqv e d)) F l) : OG X ts (compareOp .NotIn) x (.ref p) F l R :=
  .of (op_notInD hu) fun H S => ⟨d, ds, h1.dp S, h2.dp S, s1, s2, fin S q⟩
end
end TL

namespace TL
open PySem PySem.Spec PyProof.Rows L2
/-! ## the end: where a law is called, no repr is under way, and the script is all that is tracked -/
section
variable {P : Program} {w : World} {K : PySem.W.Frag} {mg : Str → Option Value} {a b : Addr} {o : Obj} {u : HO} {ns : List Int} {s : Shared}
/-- the script as an object that nobody changes, if it is not one of the written part -/
def scrH (K : PySem.W.Frag) (a : Addr) (o : Obj) (ns : List Int) : Hp := fun b => if b = a ∧ (K.lookup a).isNone = true then some (.frz o (.lst (ns.map V.int))) else none
theorem scrH_is (h : scrH K a o ns b = some u) : b = a ∧ K.lookup a = none ∧ u = .frz o (.lst (ns.map V.int)) := by
  unfold scrH at h
  split at h
  · next q => exact ⟨q.1, Option.isNone_iff_eq_none.mp q.2, (Option.some.inj h).symm⟩
  · cases h
theorem scrH_off (h : b ≠ a ∨ K.lookup a ≠ none) : scrH K a o ns b = none := by
  cases q : scrH K a o ns b with
  | none => rfl
  | some u => exact absurd (scrH_is q) fun z => h.elim (fun n => n z.1) fun n => n z.2.1
/-- what a law's call starts from, and what is worth knowing behind it -/
structure LawAt (P : Program) (w : World) (K : PySem.W.Frag) (mg : Str → Option Value) (s : Shared) (a : Addr) (ns : List Int) (base : Heap) (H : Hp) : Prop where
  env : Env0 P w K mg base callerA [] s H
  noTab : ∀ c ps, H c ≠ some (.tbl ps)
  scr : SqL K H a (ns.map V.int)
  back : ∀ H2 h2, Un [] [] H H2 s.heap h2 → HOk P w H2 h2 → OldK s.heap h2
theorem lawAt {mb : Str → Option Value} {vs : List Value} (KX : K.In s.heap) (hm : s.heap.Ns mainGlobals mg) (hb : s.heap.Ns builtinsNs mb) (hbb : ∀ y : Str, y ≠ "__name__" → mb y = bootBuiltins y) (hlim : s.heap.NoLimit) (hg : s.gens = #[])
    (ha : s.heap.get? a = some { cls := .type "list", data := .seq vs.toArray }) (hi : IntsAre vs ns) (hl : ns.length ≤ sizeLine) : ∃ base H, LawAt P w K mg s a ns base H := by
  have rv := vals_ints hi
  -- only the script is hidden
  have put : ∀ {c : Addr} {e : Obj}, s.heap.get? c = some e → c ≠ a ∨ K.lookup a ≠ none → (hidT s.heap (scrH K a { cls := .type "list", data := .seq vs.toArray } ns)).get? c = some e := fun e h => hidT_get e (scrH_off h)
  have space : ∀ {c : Addr} {m : Str → Option Value}, s.heap.Ns c m → (hidT s.heap (scrH K a { cls := .type "list", data := .seq vs.toArray } ns)).Ns c m := fun {c m} ⟨e, es, ep, e1, e2, e3⟩ =>
    ⟨e, es, ep, put e1 (.inl fun z => by
      subst z
      cases e1.symm.trans ha
      cases e2), e2, e3⟩
  refine ⟨hidT s.heap (scrH K a { cls := .type "list", data := .seq vs.toArray } ns), scrH K a { cls := .type "list", data := .seq vs.toArray } ns, ?_, ?_, ?_, ?_⟩
  · constructor
    case frames => rfl
    case bs => exact fun c e z => of_hidT z
    case bsz => exact Nat.le_of_eq (hidT_size _ _)
    case funs => trivial
    case frf => exact fun c z => nomatch (show c ∈ ([] : List Addr) from z)
    case bare => exact .of_eq hg
    case mod =>
      obtain ⟨ml, m1, m2⟩ := hlim
      refine ⟨fun c e z => put (KX c e z) ?_, space hm, ⟨mb, space hb, hbb⟩, ⟨ml, space m1, m2⟩⟩
      by_cases q : c = a
      · subst q
        exact .inr (by rw [z]; exact fun n => nomatch n)
      · exact .inl q
    case hok =>
      intro c u z
      obtain ⟨rfl, n, rfl⟩ := scrH_is z
      exact ⟨ha, by rw [List.length_map]; exact hl, vs, _, rv, ha⟩
  · intro c ps z
    obtain ⟨_, _, z⟩ := scrH_is z
    cases z
  · cases q : K.lookup a with
    | none => exact .inl (.inr ⟨{ cls := .type "list", data := .seq vs.toArray }, by unfold scrH; rw [if_pos ⟨rfl, by rw [q]; rfl⟩]⟩)
    | some e =>
      have e1 := (KX a e q).symm.trans ha
      cases e1
      exact .inr ⟨_, vs.toArray, _, q, rfl, rfl, rfl, by rw [List.size_toArray, hi.length]; exact hl, by simpa using rv⟩
  · intro H2 h2 un ok
    refine .of_keep fun c e z => ?_
    cases q : scrH K a { cls := .type "list", data := .seq vs.toArray } ns c with
    | none => exact un.keep c e z q (fun m => nomatch (show c ∈ ([] : List Addr) from m)) (fun m => nomatch (show c ∈ ([] : List Addr) from m))
    | some u =>
      obtain ⟨rfl, n, rfl⟩ := scrH_is q
      have f := (show ObjOk P w H2 h2 c (.frz _ (.lst (ns.map V.int))) from ok c _ (un.frzs c _ _ q)).1
      rw [ha] at z
      rw [← Option.some.inj z]
      exact f
/-- a law that keeps its promise gives True, and leaves what stood -/
theorem LawAt.gives {base : Heap} {H : Hp} {k : Nat} {fa : Addr} {fd : FuncData} {x : Str} {sp : Sp} (L : LawAt P w K mg s a ns base H) (hr : Room k callerA) (F : FnG P w K mg base CX0 k fa fd [x] sp) (hb : BindsTo s fd ⟨[.ref a], []⟩ [(x, .ref a)])
    (hsp : sp [.ref a] H (fun v _ => v = .bl true) fun _ _ _ => False) : codeAny (model P w) callerA (.call (.ref fa) ⟨[.ref a], []⟩) (fun r s' => r = .ok (.ret (.bool true)) ∧ OldK s.heap s'.heap ∧ s'.os = s.os ∧ AllBare s'.gens) s := by
  refine codeAny_mono (F.run _ _ _ _ _ [.ref a] [.ref a] _ _ ⟨hr, rfl⟩ L.env hb (.cons rfl .nil) hsp) fun r s' z => ?_
  match r, z with
  | .ok (.ret u), ⟨v, H2, z1, z2, z3, z4, z5, z6⟩ =>
    subst z6
    exact ⟨congrArg (fun x => Except.ok (Flow.ret x)) (show u = Value.bool true from z5), L.back H2 _ z3 z4, z1, z2⟩
end
end TL

namespace K64
open PySem PySem.Spec L2 TL
local macro_rules | `(tactic| walk_at "loc") => `(tactic| first | exact Or.inl rfl | exact Or.inr rfl)
local macro_rules | `(tactic| walk_at "vis") => `(tactic| first | exact Or.inl rfl | exact Or.inr (Or.inl rfl) | exact Or.inr (Or.inr rfl))
local macro_rules | `(tactic| walk_at "name") => `(tactic| first
  | ((with_reducible refine' ex_nameN (i := 0) ?h0 ?hX ?h1 ?h3 ?h2 ?_); (case h0 => assumption); (case h1 => rfl); (case hX => rfl); (case h2 => walk_at "vis"); (case h3 => rfl))
  | ((with_reducible refine' ex_nameN (i := 1) ?h0 ?hX ?h1 ?h3 ?h2 ?_); (case h0 => assumption); (case h1 => rfl); (case hX => rfl); (case h2 => walk_at "vis"); (case h3 => rfl))
  | ((with_reducible refine' ex_nameN (i := 2) ?h0 ?hX ?h1 ?h3 ?h2 ?_); (case h0 => assumption); (case h1 => rfl); (case hX => rfl); (case h2 => walk_at "vis"); (case h3 => rfl))
  | ((with_reducible refine' ex_nameN (i := 3) ?h0 ?hX ?h1 ?h3 ?h2 ?_); (case h0 => assumption); (case h1 => rfl); (case hX => rfl); (case h2 => walk_at "vis"); (case h3 => rfl))
  | ((with_reducible refine' ex_nameN (i := 4) ?h0 ?hX ?h1 ?h3 ?h2 ?_); (case h0 => assumption); (case h1 => rfl); (case hX => rfl); (case h2 => walk_at "vis"); (case h3 => rfl))
  | ((with_reducible refine' ex_nameN (i := 5) ?h0 ?hX ?h1 ?h3 ?h2 ?_); (case h0 => assumption); (case h1 => rfl); (case hX => rfl); (case h2 => walk_at "vis"); (case h3 => rfl))
  | ((with_reducible refine' ex_nameN (i := 6) ?h0 ?hX ?h1 ?h3 ?h2 ?_); (case h0 => assumption); (case h1 => rfl); (case hX => rfl); (case h2 => walk_at "vis"); (case h3 => rfl))
  | ((with_reducible refine' ex_nameN (i := 7) ?h0 ?hX ?h1 ?h3 ?h2 ?_); (case h0 => assumption); (case h1 => rfl); (case hX => rfl); (case h2 => walk_at "vis"); (case h3 => rfl))
  | ((with_reducible refine' ex_nameN (i := 8) ?h0 ?hX ?h1 ?h3 ?h2 ?_); (case h0 => assumption); (case h1 => rfl); (case hX => rfl); (case h2 => walk_at "vis"); (case h3 => rfl))
  | ((with_reducible refine' ex_nameN (i := 9) ?h0 ?hX ?h1 ?h3 ?h2 ?_); (case h0 => assumption); (case h1 => rfl); (case hX => rfl); (case h2 => walk_at "vis"); (case h3 => rfl))
  | ((with_reducible refine' ex_nameN (i := 10) ?h0 ?hX ?h1 ?h3 ?h2 ?_); (case h0 => assumption); (case h1 => rfl); (case hX => rfl); (case h2 => walk_at "vis"); (case h3 => rfl))
  | ((with_reducible refine' ex_nameN (i := 11) ?h0 ?hX ?h1 ?h3 ?h2 ?_); (case h0 => assumption); (case h1 => rfl); (case hX => rfl); (case h2 => walk_at "vis"); (case h3 => rfl))
  | ((with_reducible refine' ex_nameN (i := 12) ?h0 ?hX ?h1 ?h3 ?h2 ?_); (case h0 => assumption); (case h1 => rfl); (case hX => rfl); (case h2 => walk_at "vis"); (case h3 => rfl))
  | ((with_reducible refine' ex_nameN (i := 13) ?h0 ?hX ?h1 ?h3 ?h2 ?_); (case h0 => assumption); (case h1 => rfl); (case hX => rfl); (case h2 => walk_at "vis"); (case h3 => rfl)))
local macro_rules | `(tactic| walk_at "set") => `(tactic| first
  | ((with_reducible refine' sx_setN (i := 0) ?h0 ?hX ?h1 ?h2 ?h3 ?h4 ?_); (case h0 => assumption); (case h1 => rfl); (case hX => rfl); (case h2 => walk_at "loc"); (case h3 => rfl); (case h4 => walk_at "loc"))
  | ((with_reducible refine' sx_setN (i := 1) ?h0 ?hX ?h1 ?h2 ?h3 ?h4 ?_); (case h0 => assumption); (case h1 => rfl); (case hX => rfl); (case h2 => walk_at "loc"); (case h3 => rfl); (case h4 => walk_at "loc"))
  | ((with_reducible refine' sx_setN (i := 2) ?h0 ?hX ?h1 ?h2 ?h3 ?h4 ?_); (case h0 => assumption); (case h1 => rfl); (case hX => rfl); (case h2 => walk_at "loc"); (case h3 => rfl); (case h4 => walk_at "loc"))
  | ((with_reducible refine' sx_setN (i := 3) ?h0 ?hX ?h1 ?h2 ?h3 ?h4 ?_); (case h0 => assumption); (case h1 => rfl); (case hX => rfl); (case h2 => walk_at "loc"); (case h3 => rfl); (case h4 => walk_at "loc"))
  | ((with_reducible refine' sx_setN (i := 4) ?h0 ?hX ?h1 ?h2 ?h3 ?h4 ?_); (case h0 => assumption); (case h1 => rfl); (case hX => rfl); (case h2 => walk_at "loc"); (case h3 => rfl); (case h4 => walk_at "loc"))
  | ((with_reducible refine' sx_setN (i := 5) ?h0 ?hX ?h1 ?h2 ?h3 ?h4 ?_); (case h0 => assumption); (case h1 => rfl); (case hX => rfl); (case h2 => walk_at "loc"); (case h3 => rfl); (case h4 => walk_at "loc"))
  | ((with_reducible refine' sx_setN (i := 6) ?h0 ?hX ?h1 ?h2 ?h3 ?h4 ?_); (case h0 => assumption); (case h1 => rfl); (case hX => rfl); (case h2 => walk_at "loc"); (case h3 => rfl); (case h4 => walk_at "loc"))
  | ((with_reducible refine' sx_setN (i := 7) ?h0 ?hX ?h1 ?h2 ?h3 ?h4 ?_); (case h0 => assumption); (case h1 => rfl); (case hX => rfl); (case h2 => walk_at "loc"); (case h3 => rfl); (case h4 => walk_at "loc"))
  | ((with_reducible refine' sx_setN (i := 8) ?h0 ?hX ?h1 ?h2 ?h3 ?h4 ?_); (case h0 => assumption); (case h1 => rfl); (case hX => rfl); (case h2 => walk_at "loc"); (case h3 => rfl); (case h4 => walk_at "loc"))
  | ((with_reducible refine' sx_setN (i := 9) ?h0 ?hX ?h1 ?h2 ?h3 ?h4 ?_); (case h0 => assumption); (case h1 => rfl); (case hX => rfl); (case h2 => walk_at "loc"); (case h3 => rfl); (case h4 => walk_at "loc"))
  | ((with_reducible refine' sx_setN (i := 10) ?h0 ?hX ?h1 ?h2 ?h3 ?h4 ?_); (case h0 => assumption); (case h1 => rfl); (case hX => rfl); (case h2 => walk_at "loc"); (case h3 => rfl); (case h4 => walk_at "loc"))
  | ((with_reducible refine' sx_setN (i := 11) ?h0 ?hX ?h1 ?h2 ?h3 ?h4 ?_); (case h0 => assumption); (case h1 => rfl); (case hX => rfl); (case h2 => walk_at "loc"); (case h3 => rfl); (case h4 => walk_at "loc"))
  | ((with_reducible refine' sx_setN (i := 12) ?h0 ?hX ?h1 ?h2 ?h3 ?h4 ?_); (case h0 => assumption); (case h1 => rfl); (case hX => rfl); (case h2 => walk_at "loc"); (case h3 => rfl); (case h4 => walk_at "loc"))
  | ((with_reducible refine' sx_setN (i := 13) ?h0 ?hX ?h1 ?h2 ?h3 ?h4 ?_); (case h0 => assumption); (case h1 => rfl); (case hX => rfl); (case h2 => walk_at "loc"); (case h3 => rfl); (case h4 => walk_at "loc")))
local macro_rules | `(tactic| walk_at "led") => `(tactic| first | exact List.Mem.head _ | (apply List.Mem.tail; walk_at "led"))
local macro_rules | `(tactic| walk_at "isl") => `(tactic| first | assumption | exact Or.inr (by walk_at "led"))
local macro_rules | `(tactic| walk_at "sub") => `(tactic| first
  | exact Sub.rfl
  | exact Sub.nil
  | (refine Sub.pick 0 rfl ?_; walk_at "sub")
  | (refine Sub.pick 1 rfl ?_; walk_at "sub")
  | (refine Sub.pick 2 rfl ?_; walk_at "sub")
  | (refine Sub.pick 3 rfl ?_; walk_at "sub")
  | (refine Sub.pick 4 rfl ?_; walk_at "sub")
  | (refine Sub.pick 5 rfl ?_; walk_at "sub")
  | (refine Sub.pick 6 rfl ?_; walk_at "sub")
  | (refine Sub.pick 7 rfl ?_; walk_at "sub")
  | (refine Sub.pick 8 rfl ?_; walk_at "sub")
  | (refine Sub.pick 9 rfl ?_; walk_at "sub"))
local macro_rules | `(tactic| walk_at "pas") => `(tactic| first | exact PassesOwn.never | exact passes_of rfl)
local macro_rules | `(tactic| walk_at "for1") => `(tactic| first
  | ((with_reducible refine' sx_for_range1 (i := 0) ?hp ?hc ?hN ?hi ?hx ?hf ?hg ?hm ?hse ?hs ?_); (case hi => rfl); (case hp => walk_at "pas"); (case hc => rfl); (case hN => assumption); (case hx => walk_at "loc"); (case hf => walk_at "loc"); (case hg => rfl); (case hm => assumption); (case hse => rfl); (case hs => exact fun _ => rfl))
  | ((with_reducible refine' sx_for_range1 (i := 1) ?hp ?hc ?hN ?hi ?hx ?hf ?hg ?hm ?hse ?hs ?_); (case hi => rfl); (case hp => walk_at "pas"); (case hc => rfl); (case hN => assumption); (case hx => walk_at "loc"); (case hf => walk_at "loc"); (case hg => rfl); (case hm => assumption); (case hse => rfl); (case hs => exact fun _ => rfl))
  | ((with_reducible refine' sx_for_range1 (i := 2) ?hp ?hc ?hN ?hi ?hx ?hf ?hg ?hm ?hse ?hs ?_); (case hi => rfl); (case hp => walk_at "pas"); (case hc => rfl); (case hN => assumption); (case hx => walk_at "loc"); (case hf => walk_at "loc"); (case hg => rfl); (case hm => assumption); (case hse => rfl); (case hs => exact fun _ => rfl))
  | ((with_reducible refine' sx_for_range1 (i := 3) ?hp ?hc ?hN ?hi ?hx ?hf ?hg ?hm ?hse ?hs ?_); (case hi => rfl); (case hp => walk_at "pas"); (case hc => rfl); (case hN => assumption); (case hx => walk_at "loc"); (case hf => walk_at "loc"); (case hg => rfl); (case hm => assumption); (case hse => rfl); (case hs => exact fun _ => rfl))
  | ((with_reducible refine' sx_for_range1 (i := 4) ?hp ?hc ?hN ?hi ?hx ?hf ?hg ?hm ?hse ?hs ?_); (case hi => rfl); (case hp => walk_at "pas"); (case hc => rfl); (case hN => assumption); (case hx => walk_at "loc"); (case hf => walk_at "loc"); (case hg => rfl); (case hm => assumption); (case hse => rfl); (case hs => exact fun _ => rfl))
  | ((with_reducible refine' sx_for_range1 (i := 5) ?hp ?hc ?hN ?hi ?hx ?hf ?hg ?hm ?hse ?hs ?_); (case hi => rfl); (case hp => walk_at "pas"); (case hc => rfl); (case hN => assumption); (case hx => walk_at "loc"); (case hf => walk_at "loc"); (case hg => rfl); (case hm => assumption); (case hse => rfl); (case hs => exact fun _ => rfl))
  | ((with_reducible refine' sx_for_range1 (i := 6) ?hp ?hc ?hN ?hi ?hx ?hf ?hg ?hm ?hse ?hs ?_); (case hi => rfl); (case hp => walk_at "pas"); (case hc => rfl); (case hN => assumption); (case hx => walk_at "loc"); (case hf => walk_at "loc"); (case hg => rfl); (case hm => assumption); (case hse => rfl); (case hs => exact fun _ => rfl))
  | ((with_reducible refine' sx_for_range1 (i := 7) ?hp ?hc ?hN ?hi ?hx ?hf ?hg ?hm ?hse ?hs ?_); (case hi => rfl); (case hp => walk_at "pas"); (case hc => rfl); (case hN => assumption); (case hx => walk_at "loc"); (case hf => walk_at "loc"); (case hg => rfl); (case hm => assumption); (case hse => rfl); (case hs => exact fun _ => rfl))
  | ((with_reducible refine' sx_for_range1 (i := 8) ?hp ?hc ?hN ?hi ?hx ?hf ?hg ?hm ?hse ?hs ?_); (case hi => rfl); (case hp => walk_at "pas"); (case hc => rfl); (case hN => assumption); (case hx => walk_at "loc"); (case hf => walk_at "loc"); (case hg => rfl); (case hm => assumption); (case hse => rfl); (case hs => exact fun _ => rfl))
  | ((with_reducible refine' sx_for_range1 (i := 9) ?hp ?hc ?hN ?hi ?hx ?hf ?hg ?hm ?hse ?hs ?_); (case hi => rfl); (case hp => walk_at "pas"); (case hc => rfl); (case hN => assumption); (case hx => walk_at "loc"); (case hf => walk_at "loc"); (case hg => rfl); (case hm => assumption); (case hse => rfl); (case hs => exact fun _ => rfl))
  | ((with_reducible refine' sx_for_range1 (i := 10) ?hp ?hc ?hN ?hi ?hx ?hf ?hg ?hm ?hse ?hs ?_); (case hi => rfl); (case hp => walk_at "pas"); (case hc => rfl); (case hN => assumption); (case hx => walk_at "loc"); (case hf => walk_at "loc"); (case hg => rfl); (case hm => assumption); (case hse => rfl); (case hs => exact fun _ => rfl))
  | ((with_reducible refine' sx_for_range1 (i := 11) ?hp ?hc ?hN ?hi ?hx ?hf ?hg ?hm ?hse ?hs ?_); (case hi => rfl); (case hp => walk_at "pas"); (case hc => rfl); (case hN => assumption); (case hx => walk_at "loc"); (case hf => walk_at "loc"); (case hg => rfl); (case hm => assumption); (case hse => rfl); (case hs => exact fun _ => rfl))
  | ((with_reducible refine' sx_for_range1 (i := 12) ?hp ?hc ?hN ?hi ?hx ?hf ?hg ?hm ?hse ?hs ?_); (case hi => rfl); (case hp => walk_at "pas"); (case hc => rfl); (case hN => assumption); (case hx => walk_at "loc"); (case hf => walk_at "loc"); (case hg => rfl); (case hm => assumption); (case hse => rfl); (case hs => exact fun _ => rfl))
  | ((with_reducible refine' sx_for_range1 (i := 13) ?hp ?hc ?hN ?hi ?hx ?hf ?hg ?hm ?hse ?hs ?_); (case hi => rfl); (case hp => walk_at "pas"); (case hc => rfl); (case hN => assumption); (case hx => walk_at "loc"); (case hf => walk_at "loc"); (case hg => rfl); (case hm => assumption); (case hse => rfl); (case hs => exact fun _ => rfl)))
local macro_rules | `(tactic| walk_at "for2") => `(tactic| first
  | ((with_reducible refine' sx_for_range2 (i := 0) ?hp ?hc ?hN ?hi ?hx ?hf ?hg ?hm ?hse ?hse2 ?hs ?_); (case hi => rfl); (case hp => walk_at "pas"); (case hc => rfl); (case hN => assumption); (case hx => walk_at "loc"); (case hf => walk_at "loc"); (case hg => rfl); (case hm => assumption); (case hse => rfl); (case hse2 => rfl); (case hs => exact fun _ => rfl))
  | ((with_reducible refine' sx_for_range2 (i := 1) ?hp ?hc ?hN ?hi ?hx ?hf ?hg ?hm ?hse ?hse2 ?hs ?_); (case hi => rfl); (case hp => walk_at "pas"); (case hc => rfl); (case hN => assumption); (case hx => walk_at "loc"); (case hf => walk_at "loc"); (case hg => rfl); (case hm => assumption); (case hse => rfl); (case hse2 => rfl); (case hs => exact fun _ => rfl))
  | ((with_reducible refine' sx_for_range2 (i := 2) ?hp ?hc ?hN ?hi ?hx ?hf ?hg ?hm ?hse ?hse2 ?hs ?_); (case hi => rfl); (case hp => walk_at "pas"); (case hc => rfl); (case hN => assumption); (case hx => walk_at "loc"); (case hf => walk_at "loc"); (case hg => rfl); (case hm => assumption); (case hse => rfl); (case hse2 => rfl); (case hs => exact fun _ => rfl))
  | ((with_reducible refine' sx_for_range2 (i := 3) ?hp ?hc ?hN ?hi ?hx ?hf ?hg ?hm ?hse ?hse2 ?hs ?_); (case hi => rfl); (case hp => walk_at "pas"); (case hc => rfl); (case hN => assumption); (case hx => walk_at "loc"); (case hf => walk_at "loc"); (case hg => rfl); (case hm => assumption); (case hse => rfl); (case hse2 => rfl); (case hs => exact fun _ => rfl))
  | ((with_reducible refine' sx_for_range2 (i := 4) ?hp ?hc ?hN ?hi ?hx ?hf ?hg ?hm ?hse ?hse2 ?hs ?_); (case hi => rfl); (case hp => walk_at "pas"); (case hc => rfl); (case hN => assumption); (case hx => walk_at "loc"); (case hf => walk_at "loc"); (case hg => rfl); (case hm => assumption); (case hse => rfl); (case hse2 => rfl); (case hs => exact fun _ => rfl))
  | ((with_reducible refine' sx_for_range2 (i := 5) ?hp ?hc ?hN ?hi ?hx ?hf ?hg ?hm ?hse ?hse2 ?hs ?_); (case hi => rfl); (case hp => walk_at "pas"); (case hc => rfl); (case hN => assumption); (case hx => walk_at "loc"); (case hf => walk_at "loc"); (case hg => rfl); (case hm => assumption); (case hse => rfl); (case hse2 => rfl); (case hs => exact fun _ => rfl))
  | ((with_reducible refine' sx_for_range2 (i := 6) ?hp ?hc ?hN ?hi ?hx ?hf ?hg ?hm ?hse ?hse2 ?hs ?_); (case hi => rfl); (case hp => walk_at "pas"); (case hc => rfl); (case hN => assumption); (case hx => walk_at "loc"); (case hf => walk_at "loc"); (case hg => rfl); (case hm => assumption); (case hse => rfl); (case hse2 => rfl); (case hs => exact fun _ => rfl))
  | ((with_reducible refine' sx_for_range2 (i := 7) ?hp ?hc ?hN ?hi ?hx ?hf ?hg ?hm ?hse ?hse2 ?hs ?_); (case hi => rfl); (case hp => walk_at "pas"); (case hc => rfl); (case hN => assumption); (case hx => walk_at "loc"); (case hf => walk_at "loc"); (case hg => rfl); (case hm => assumption); (case hse => rfl); (case hse2 => rfl); (case hs => exact fun _ => rfl))
  | ((with_reducible refine' sx_for_range2 (i := 8) ?hp ?hc ?hN ?hi ?hx ?hf ?hg ?hm ?hse ?hse2 ?hs ?_); (case hi => rfl); (case hp => walk_at "pas"); (case hc => rfl); (case hN => assumption); (case hx => walk_at "loc"); (case hf => walk_at "loc"); (case hg => rfl); (case hm => assumption); (case hse => rfl); (case hse2 => rfl); (case hs => exact fun _ => rfl))
  | ((with_reducible refine' sx_for_range2 (i := 9) ?hp ?hc ?hN ?hi ?hx ?hf ?hg ?hm ?hse ?hse2 ?hs ?_); (case hi => rfl); (case hp => walk_at "pas"); (case hc => rfl); (case hN => assumption); (case hx => walk_at "loc"); (case hf => walk_at "loc"); (case hg => rfl); (case hm => assumption); (case hse => rfl); (case hse2 => rfl); (case hs => exact fun _ => rfl))
  | ((with_reducible refine' sx_for_range2 (i := 10) ?hp ?hc ?hN ?hi ?hx ?hf ?hg ?hm ?hse ?hse2 ?hs ?_); (case hi => rfl); (case hp => walk_at "pas"); (case hc => rfl); (case hN => assumption); (case hx => walk_at "loc"); (case hf => walk_at "loc"); (case hg => rfl); (case hm => assumption); (case hse => rfl); (case hse2 => rfl); (case hs => exact fun _ => rfl))
  | ((with_reducible refine' sx_for_range2 (i := 11) ?hp ?hc ?hN ?hi ?hx ?hf ?hg ?hm ?hse ?hse2 ?hs ?_); (case hi => rfl); (case hp => walk_at "pas"); (case hc => rfl); (case hN => assumption); (case hx => walk_at "loc"); (case hf => walk_at "loc"); (case hg => rfl); (case hm => assumption); (case hse => rfl); (case hse2 => rfl); (case hs => exact fun _ => rfl))
  | ((with_reducible refine' sx_for_range2 (i := 12) ?hp ?hc ?hN ?hi ?hx ?hf ?hg ?hm ?hse ?hse2 ?hs ?_); (case hi => rfl); (case hp => walk_at "pas"); (case hc => rfl); (case hN => assumption); (case hx => walk_at "loc"); (case hf => walk_at "loc"); (case hg => rfl); (case hm => assumption); (case hse => rfl); (case hse2 => rfl); (case hs => exact fun _ => rfl))
  | ((with_reducible refine' sx_for_range2 (i := 13) ?hp ?hc ?hN ?hi ?hx ?hf ?hg ?hm ?hse ?hse2 ?hs ?_); (case hi => rfl); (case hp => walk_at "pas"); (case hc => rfl); (case hN => assumption); (case hx => walk_at "loc"); (case hf => walk_at "loc"); (case hg => rfl); (case hm => assumption); (case hse => rfl); (case hse2 => rfl); (case hs => exact fun _ => rfl)))
local macro_rules | `(tactic| walk_at "forl") => `(tactic| first
  | ((with_reducible refine' sx_for_list (i := 0) ?hp ?hc ?hN ?hi ?hx ?hf ?hs ?_); (case hi => rfl); (case hp => walk_at "pas"); (case hc => rfl); (case hN => assumption); (case hx => walk_at "loc"); (case hf => walk_at "loc"); (case hs => exact fun _ => rfl))
  | ((with_reducible refine' sx_for_list (i := 1) ?hp ?hc ?hN ?hi ?hx ?hf ?hs ?_); (case hi => rfl); (case hp => walk_at "pas"); (case hc => rfl); (case hN => assumption); (case hx => walk_at "loc"); (case hf => walk_at "loc"); (case hs => exact fun _ => rfl))
  | ((with_reducible refine' sx_for_list (i := 2) ?hp ?hc ?hN ?hi ?hx ?hf ?hs ?_); (case hi => rfl); (case hp => walk_at "pas"); (case hc => rfl); (case hN => assumption); (case hx => walk_at "loc"); (case hf => walk_at "loc"); (case hs => exact fun _ => rfl))
  | ((with_reducible refine' sx_for_list (i := 3) ?hp ?hc ?hN ?hi ?hx ?hf ?hs ?_); (case hi => rfl); (case hp => walk_at "pas"); (case hc => rfl); (case hN => assumption); (case hx => walk_at "loc"); (case hf => walk_at "loc"); (case hs => exact fun _ => rfl))
  | ((with_reducible refine' sx_for_list (i := 4) ?hp ?hc ?hN ?hi ?hx ?hf ?hs ?_); (case hi => rfl); (case hp => walk_at "pas"); (case hc => rfl); (case hN => assumption); (case hx => walk_at "loc"); (case hf => walk_at "loc"); (case hs => exact fun _ => rfl))
  | ((with_reducible refine' sx_for_list (i := 5) ?hp ?hc ?hN ?hi ?hx ?hf ?hs ?_); (case hi => rfl); (case hp => walk_at "pas"); (case hc => rfl); (case hN => assumption); (case hx => walk_at "loc"); (case hf => walk_at "loc"); (case hs => exact fun _ => rfl))
  | ((with_reducible refine' sx_for_list (i := 6) ?hp ?hc ?hN ?hi ?hx ?hf ?hs ?_); (case hi => rfl); (case hp => walk_at "pas"); (case hc => rfl); (case hN => assumption); (case hx => walk_at "loc"); (case hf => walk_at "loc"); (case hs => exact fun _ => rfl))
  | ((with_reducible refine' sx_for_list (i := 7) ?hp ?hc ?hN ?hi ?hx ?hf ?hs ?_); (case hi => rfl); (case hp => walk_at "pas"); (case hc => rfl); (case hN => assumption); (case hx => walk_at "loc"); (case hf => walk_at "loc"); (case hs => exact fun _ => rfl))
  | ((with_reducible refine' sx_for_list (i := 8) ?hp ?hc ?hN ?hi ?hx ?hf ?hs ?_); (case hi => rfl); (case hp => walk_at "pas"); (case hc => rfl); (case hN => assumption); (case hx => walk_at "loc"); (case hf => walk_at "loc"); (case hs => exact fun _ => rfl))
  | ((with_reducible refine' sx_for_list (i := 9) ?hp ?hc ?hN ?hi ?hx ?hf ?hs ?_); (case hi => rfl); (case hp => walk_at "pas"); (case hc => rfl); (case hN => assumption); (case hx => walk_at "loc"); (case hf => walk_at "loc"); (case hs => exact fun _ => rfl))
  | ((with_reducible refine' sx_for_list (i := 10) ?hp ?hc ?hN ?hi ?hx ?hf ?hs ?_); (case hi => rfl); (case hp => walk_at "pas"); (case hc => rfl); (case hN => assumption); (case hx => walk_at "loc"); (case hf => walk_at "loc"); (case hs => exact fun _ => rfl))
  | ((with_reducible refine' sx_for_list (i := 11) ?hp ?hc ?hN ?hi ?hx ?hf ?hs ?_); (case hi => rfl); (case hp => walk_at "pas"); (case hc => rfl); (case hN => assumption); (case hx => walk_at "loc"); (case hf => walk_at "loc"); (case hs => exact fun _ => rfl))
  | ((with_reducible refine' sx_for_list (i := 12) ?hp ?hc ?hN ?hi ?hx ?hf ?hs ?_); (case hi => rfl); (case hp => walk_at "pas"); (case hc => rfl); (case hN => assumption); (case hx => walk_at "loc"); (case hf => walk_at "loc"); (case hs => exact fun _ => rfl))
  | ((with_reducible refine' sx_for_list (i := 13) ?hp ?hc ?hN ?hi ?hx ?hf ?hs ?_); (case hi => rfl); (case hp => walk_at "pas"); (case hc => rfl); (case hN => assumption); (case hx => walk_at "loc"); (case hf => walk_at "loc"); (case hs => exact fun _ => rfl)))
local macro_rules | `(tactic| walk_at "call") => `(tactic| ((with_reducible refine' ex_callE (E := fun _ _ _ => False) (RE := NoX) ?C ?hr ?hk ?hx ?hE ?hg ?hdb ?he ?hpl ?_); (case C => assumption); (case hr => assumption); (case hk => decide); (case hx => exact passN); (case hE => exact fun _ _ _ _ _ _ h => h.elim); (case hg => rfl); (case hdb => decide); (case he => rfl); (case hpl => rfl)))
local macro_rules | `(tactic| walk_at "call0") => `(tactic| ((with_reducible refine' ex_call0E (E := fun _ _ _ => False) (RE := NoX) ?C ?hr ?hk ?hx ?hE ?hg ?hdb ?_); (case C => assumption); (case hr => assumption); (case hk => decide); (case hx => exact passN); (case hE => exact fun _ _ _ _ _ _ h => h.elim); (case hg => rfl); (case hdb => decide)))
local macro_rules | `(tactic| walk_at "forenum") => `(tactic| first
  | ((with_reducible refine' sx_for_enum (i := 0) (j := 1) ?hp ?hc ?hN ?hi ?hj ?hx ?hy ?hf ?hf2 ?hg ?hm ?hse ?h1 ?h2 ?h3 ?h4 ?hs ?_); (case hi => rfl); (case hj => rfl); (case hp => walk_at "pas"); (case hc => rfl); (case hN => assumption); (case hx => walk_at "loc"); (case hf => walk_at "loc"); (case hy => walk_at "loc"); (case hf2 => walk_at "loc"); (case hg => rfl); (case hm => assumption); (case hse => rfl); (case h1 => rfl); (case h2 => rfl); (case h3 => rfl); (case h4 => rfl); (case hs => exact fun _ => rfl))
  | ((with_reducible refine' sx_for_enum (i := 1) (j := 2) ?hp ?hc ?hN ?hi ?hj ?hx ?hy ?hf ?hf2 ?hg ?hm ?hse ?h1 ?h2 ?h3 ?h4 ?hs ?_); (case hi => rfl); (case hj => rfl); (case hp => walk_at "pas"); (case hc => rfl); (case hN => assumption); (case hx => walk_at "loc"); (case hf => walk_at "loc"); (case hy => walk_at "loc"); (case hf2 => walk_at "loc"); (case hg => rfl); (case hm => assumption); (case hse => rfl); (case h1 => rfl); (case h2 => rfl); (case h3 => rfl); (case h4 => rfl); (case hs => exact fun _ => rfl))
  | ((with_reducible refine' sx_for_enum (i := 2) (j := 3) ?hp ?hc ?hN ?hi ?hj ?hx ?hy ?hf ?hf2 ?hg ?hm ?hse ?h1 ?h2 ?h3 ?h4 ?hs ?_); (case hi => rfl); (case hj => rfl); (case hp => walk_at "pas"); (case hc => rfl); (case hN => assumption); (case hx => walk_at "loc"); (case hf => walk_at "loc"); (case hy => walk_at "loc"); (case hf2 => walk_at "loc"); (case hg => rfl); (case hm => assumption); (case hse => rfl); (case h1 => rfl); (case h2 => rfl); (case h3 => rfl); (case h4 => rfl); (case hs => exact fun _ => rfl))
  | ((with_reducible refine' sx_for_enum (i := 3) (j := 4) ?hp ?hc ?hN ?hi ?hj ?hx ?hy ?hf ?hf2 ?hg ?hm ?hse ?h1 ?h2 ?h3 ?h4 ?hs ?_); (case hi => rfl); (case hj => rfl); (case hp => walk_at "pas"); (case hc => rfl); (case hN => assumption); (case hx => walk_at "loc"); (case hf => walk_at "loc"); (case hy => walk_at "loc"); (case hf2 => walk_at "loc"); (case hg => rfl); (case hm => assumption); (case hse => rfl); (case h1 => rfl); (case h2 => rfl); (case h3 => rfl); (case h4 => rfl); (case hs => exact fun _ => rfl))
  | ((with_reducible refine' sx_for_enum (i := 4) (j := 5) ?hp ?hc ?hN ?hi ?hj ?hx ?hy ?hf ?hf2 ?hg ?hm ?hse ?h1 ?h2 ?h3 ?h4 ?hs ?_); (case hi => rfl); (case hj => rfl); (case hp => walk_at "pas"); (case hc => rfl); (case hN => assumption); (case hx => walk_at "loc"); (case hf => walk_at "loc"); (case hy => walk_at "loc"); (case hf2 => walk_at "loc"); (case hg => rfl); (case hm => assumption); (case hse => rfl); (case h1 => rfl); (case h2 => rfl); (case h3 => rfl); (case h4 => rfl); (case hs => exact fun _ => rfl))
  | ((with_reducible refine' sx_for_enum (i := 5) (j := 6) ?hp ?hc ?hN ?hi ?hj ?hx ?hy ?hf ?hf2 ?hg ?hm ?hse ?h1 ?h2 ?h3 ?h4 ?hs ?_); (case hi => rfl); (case hj => rfl); (case hp => walk_at "pas"); (case hc => rfl); (case hN => assumption); (case hx => walk_at "loc"); (case hf => walk_at "loc"); (case hy => walk_at "loc"); (case hf2 => walk_at "loc"); (case hg => rfl); (case hm => assumption); (case hse => rfl); (case h1 => rfl); (case h2 => rfl); (case h3 => rfl); (case h4 => rfl); (case hs => exact fun _ => rfl))
  | ((with_reducible refine' sx_for_enum (i := 6) (j := 7) ?hp ?hc ?hN ?hi ?hj ?hx ?hy ?hf ?hf2 ?hg ?hm ?hse ?h1 ?h2 ?h3 ?h4 ?hs ?_); (case hi => rfl); (case hj => rfl); (case hp => walk_at "pas"); (case hc => rfl); (case hN => assumption); (case hx => walk_at "loc"); (case hf => walk_at "loc"); (case hy => walk_at "loc"); (case hf2 => walk_at "loc"); (case hg => rfl); (case hm => assumption); (case hse => rfl); (case h1 => rfl); (case h2 => rfl); (case h3 => rfl); (case h4 => rfl); (case hs => exact fun _ => rfl))
  | ((with_reducible refine' sx_for_enum (i := 7) (j := 8) ?hp ?hc ?hN ?hi ?hj ?hx ?hy ?hf ?hf2 ?hg ?hm ?hse ?h1 ?h2 ?h3 ?h4 ?hs ?_); (case hi => rfl); (case hj => rfl); (case hp => walk_at "pas"); (case hc => rfl); (case hN => assumption); (case hx => walk_at "loc"); (case hf => walk_at "loc"); (case hy => walk_at "loc"); (case hf2 => walk_at "loc"); (case hg => rfl); (case hm => assumption); (case hse => rfl); (case h1 => rfl); (case h2 => rfl); (case h3 => rfl); (case h4 => rfl); (case hs => exact fun _ => rfl))
  | ((with_reducible refine' sx_for_enum (i := 8) (j := 9) ?hp ?hc ?hN ?hi ?hj ?hx ?hy ?hf ?hf2 ?hg ?hm ?hse ?h1 ?h2 ?h3 ?h4 ?hs ?_); (case hi => rfl); (case hj => rfl); (case hp => walk_at "pas"); (case hc => rfl); (case hN => assumption); (case hx => walk_at "loc"); (case hf => walk_at "loc"); (case hy => walk_at "loc"); (case hf2 => walk_at "loc"); (case hg => rfl); (case hm => assumption); (case hse => rfl); (case h1 => rfl); (case h2 => rfl); (case h3 => rfl); (case h4 => rfl); (case hs => exact fun _ => rfl))
  | ((with_reducible refine' sx_for_enum (i := 9) (j := 10) ?hp ?hc ?hN ?hi ?hj ?hx ?hy ?hf ?hf2 ?hg ?hm ?hse ?h1 ?h2 ?h3 ?h4 ?hs ?_); (case hi => rfl); (case hj => rfl); (case hp => walk_at "pas"); (case hc => rfl); (case hN => assumption); (case hx => walk_at "loc"); (case hf => walk_at "loc"); (case hy => walk_at "loc"); (case hf2 => walk_at "loc"); (case hg => rfl); (case hm => assumption); (case hse => rfl); (case h1 => rfl); (case h2 => rfl); (case h3 => rfl); (case h4 => rfl); (case hs => exact fun _ => rfl))
  | ((with_reducible refine' sx_for_enum (i := 10) (j := 11) ?hp ?hc ?hN ?hi ?hj ?hx ?hy ?hf ?hf2 ?hg ?hm ?hse ?h1 ?h2 ?h3 ?h4 ?hs ?_); (case hi => rfl); (case hj => rfl); (case hp => walk_at "pas"); (case hc => rfl); (case hN => assumption); (case hx => walk_at "loc"); (case hf => walk_at "loc"); (case hy => walk_at "loc"); (case hf2 => walk_at "loc"); (case hg => rfl); (case hm => assumption); (case hse => rfl); (case h1 => rfl); (case h2 => rfl); (case h3 => rfl); (case h4 => rfl); (case hs => exact fun _ => rfl))
  | ((with_reducible refine' sx_for_enum (i := 11) (j := 12) ?hp ?hc ?hN ?hi ?hj ?hx ?hy ?hf ?hf2 ?hg ?hm ?hse ?h1 ?h2 ?h3 ?h4 ?hs ?_); (case hi => rfl); (case hj => rfl); (case hp => walk_at "pas"); (case hc => rfl); (case hN => assumption); (case hx => walk_at "loc"); (case hf => walk_at "loc"); (case hy => walk_at "loc"); (case hf2 => walk_at "loc"); (case hg => rfl); (case hm => assumption); (case hse => rfl); (case h1 => rfl); (case h2 => rfl); (case h3 => rfl); (case h4 => rfl); (case hs => exact fun _ => rfl))
  | ((with_reducible refine' sx_for_enum (i := 12) (j := 13) ?hp ?hc ?hN ?hi ?hj ?hx ?hy ?hf ?hf2 ?hg ?hm ?hse ?h1 ?h2 ?h3 ?h4 ?hs ?_); (case hi => rfl); (case hj => rfl); (case hp => walk_at "pas"); (case hc => rfl); (case hN => assumption); (case hx => walk_at "loc"); (case hf => walk_at "loc"); (case hy => walk_at "loc"); (case hf2 => walk_at "loc"); (case hg => rfl); (case hm => assumption); (case hse => rfl); (case h1 => rfl); (case h2 => rfl); (case h3 => rfl); (case h4 => rfl); (case hs => exact fun _ => rfl))
  | ((with_reducible refine' sx_for_enum (i := 13) (j := 14) ?hp ?hc ?hN ?hi ?hj ?hx ?hy ?hf ?hf2 ?hg ?hm ?hse ?h1 ?h2 ?h3 ?h4 ?hs ?_); (case hi => rfl); (case hj => rfl); (case hp => walk_at "pas"); (case hc => rfl); (case hN => assumption); (case hx => walk_at "loc"); (case hf => walk_at "loc"); (case hy => walk_at "loc"); (case hf2 => walk_at "loc"); (case hg => rfl); (case hm => assumption); (case hse => rfl); (case h1 => rfl); (case h2 => rfl); (case h3 => rfl); (case h4 => rfl); (case hs => exact fun _ => rfl)))
local macro_rules | `(tactic| walk_at "par") => `(tactic| first
  | ((with_reducible refine' sx_par (i := 0) (j := 1) ?hc ?hN ?hi ?hj ?hij ?hx ?hy ?hw ?hs ?_ ?h1 ?h2); (case hi => rfl); (case hj => rfl); (case hc => rfl); (case hN => assumption); (case hij => decide); (case hx => rfl); (case hy => rfl); (case hw => rfl); (case hs => rfl); (case h1 => rfl); (case h2 => rfl))
  | ((with_reducible refine' sx_par (i := 1) (j := 2) ?hc ?hN ?hi ?hj ?hij ?hx ?hy ?hw ?hs ?_ ?h1 ?h2); (case hi => rfl); (case hj => rfl); (case hc => rfl); (case hN => assumption); (case hij => decide); (case hx => rfl); (case hy => rfl); (case hw => rfl); (case hs => rfl); (case h1 => rfl); (case h2 => rfl))
  | ((with_reducible refine' sx_par (i := 2) (j := 3) ?hc ?hN ?hi ?hj ?hij ?hx ?hy ?hw ?hs ?_ ?h1 ?h2); (case hi => rfl); (case hj => rfl); (case hc => rfl); (case hN => assumption); (case hij => decide); (case hx => rfl); (case hy => rfl); (case hw => rfl); (case hs => rfl); (case h1 => rfl); (case h2 => rfl))
  | ((with_reducible refine' sx_par (i := 3) (j := 4) ?hc ?hN ?hi ?hj ?hij ?hx ?hy ?hw ?hs ?_ ?h1 ?h2); (case hi => rfl); (case hj => rfl); (case hc => rfl); (case hN => assumption); (case hij => decide); (case hx => rfl); (case hy => rfl); (case hw => rfl); (case hs => rfl); (case h1 => rfl); (case h2 => rfl))
  | ((with_reducible refine' sx_par (i := 4) (j := 5) ?hc ?hN ?hi ?hj ?hij ?hx ?hy ?hw ?hs ?_ ?h1 ?h2); (case hi => rfl); (case hj => rfl); (case hc => rfl); (case hN => assumption); (case hij => decide); (case hx => rfl); (case hy => rfl); (case hw => rfl); (case hs => rfl); (case h1 => rfl); (case h2 => rfl))
  | ((with_reducible refine' sx_par (i := 5) (j := 6) ?hc ?hN ?hi ?hj ?hij ?hx ?hy ?hw ?hs ?_ ?h1 ?h2); (case hi => rfl); (case hj => rfl); (case hc => rfl); (case hN => assumption); (case hij => decide); (case hx => rfl); (case hy => rfl); (case hw => rfl); (case hs => rfl); (case h1 => rfl); (case h2 => rfl))
  | ((with_reducible refine' sx_par (i := 6) (j := 7) ?hc ?hN ?hi ?hj ?hij ?hx ?hy ?hw ?hs ?_ ?h1 ?h2); (case hi => rfl); (case hj => rfl); (case hc => rfl); (case hN => assumption); (case hij => decide); (case hx => rfl); (case hy => rfl); (case hw => rfl); (case hs => rfl); (case h1 => rfl); (case h2 => rfl))
  | ((with_reducible refine' sx_par (i := 7) (j := 8) ?hc ?hN ?hi ?hj ?hij ?hx ?hy ?hw ?hs ?_ ?h1 ?h2); (case hi => rfl); (case hj => rfl); (case hc => rfl); (case hN => assumption); (case hij => decide); (case hx => rfl); (case hy => rfl); (case hw => rfl); (case hs => rfl); (case h1 => rfl); (case h2 => rfl))
  | ((with_reducible refine' sx_par (i := 8) (j := 9) ?hc ?hN ?hi ?hj ?hij ?hx ?hy ?hw ?hs ?_ ?h1 ?h2); (case hi => rfl); (case hj => rfl); (case hc => rfl); (case hN => assumption); (case hij => decide); (case hx => rfl); (case hy => rfl); (case hw => rfl); (case hs => rfl); (case h1 => rfl); (case h2 => rfl))
  | ((with_reducible refine' sx_par (i := 9) (j := 10) ?hc ?hN ?hi ?hj ?hij ?hx ?hy ?hw ?hs ?_ ?h1 ?h2); (case hi => rfl); (case hj => rfl); (case hc => rfl); (case hN => assumption); (case hij => decide); (case hx => rfl); (case hy => rfl); (case hw => rfl); (case hs => rfl); (case h1 => rfl); (case h2 => rfl))
  | ((with_reducible refine' sx_par (i := 10) (j := 11) ?hc ?hN ?hi ?hj ?hij ?hx ?hy ?hw ?hs ?_ ?h1 ?h2); (case hi => rfl); (case hj => rfl); (case hc => rfl); (case hN => assumption); (case hij => decide); (case hx => rfl); (case hy => rfl); (case hw => rfl); (case hs => rfl); (case h1 => rfl); (case h2 => rfl))
  | ((with_reducible refine' sx_par (i := 11) (j := 12) ?hc ?hN ?hi ?hj ?hij ?hx ?hy ?hw ?hs ?_ ?h1 ?h2); (case hi => rfl); (case hj => rfl); (case hc => rfl); (case hN => assumption); (case hij => decide); (case hx => rfl); (case hy => rfl); (case hw => rfl); (case hs => rfl); (case h1 => rfl); (case h2 => rfl))
  | ((with_reducible refine' sx_par (i := 12) (j := 13) ?hc ?hN ?hi ?hj ?hij ?hx ?hy ?hw ?hs ?_ ?h1 ?h2); (case hi => rfl); (case hj => rfl); (case hc => rfl); (case hN => assumption); (case hij => decide); (case hx => rfl); (case hy => rfl); (case hw => rfl); (case hs => rfl); (case h1 => rfl); (case h2 => rfl))
  | ((with_reducible refine' sx_par (i := 13) (j := 14) ?hc ?hN ?hi ?hj ?hij ?hx ?hy ?hw ?hs ?_ ?h1 ?h2); (case hi => rfl); (case hj => rfl); (case hc => rfl); (case hN => assumption); (case hij => decide); (case hx => rfl); (case hy => rfl); (case hw => rfl); (case hs => rfl); (case h1 => rfl); (case h2 => rfl)))
local macro_rules | `(tactic| walk_at "tl") => `(tactic| first
  | ((with_reducible refine' ex_int ?_))
  | ((with_reducible refine' ex_str ?_))
  | ((with_reducible refine' ex_non ?_))
  | ((with_reducible refine' ex_bl ?_))
  | walk_at "name"
  | ((with_reducible refine' ex_bin ?_))
  | ((with_reducible refine' ea_nil ?_))
  | ((with_reducible refine' ea_cons ?h1 ?_); (case h1 => rfl))
  | ((with_reducible refine' og_add_int ?_))
  | ((with_reducible refine' og_sub_int ?_))
  | ((with_reducible refine' og_lt_int ?_))
  | ((with_reducible refine' og_le_int ?_))
  | ((with_reducible refine' og_gt_int ?_))
  | ((with_reducible refine' og_ge_int ?_))
  | ((with_reducible refine' og_eq_int ?_))
  | ((with_reducible refine' og_ne_int ?_))
  | ((with_reducible refine' ug_neg ?_))
  | ((with_reducible refine' bx_cons ?_))
  | ((with_reducible refine' bx_nil ?_))
  | walk_at "set"
  | ((with_reducible refine' sx_ret ?_))
  | ((with_reducible refine' sx_retN ?_))
  | ((with_reducible refine' sx_pass ?_))
  | ((with_reducible refine' sx_expr ?h1 ?_); (case h1 => rfl))
  | ((with_reducible refine' sx_if ?_))
  | ((with_reducible refine' et_cmp ?h1 ?_); (case h1 => rfl))
  | ((with_reducible refine' et_not ?_))
  | ((with_reducible refine' et_bool ?_))
  | ((with_reducible refine' ew_and1 ?_))
  | ((with_reducible refine' ew_or1 ?_))
  | ((with_reducible refine' ew_and ?_))
  | ((with_reducible refine' ew_or ?_))
  | ((with_reducible refine' ex_un ?_))
  | ((with_reducible refine' ex_cmp ?h1 ?_); (case h1 => rfl))
  | ((with_reducible refine' ex_list ?_))
  | ((with_reducible refine' ex_tuple ?_))
  | ((with_reducible refine' ex_ix ?h1 ?_); (case h1 => exact fun _ _ => rfl))
  | ((with_reducible refine' sx_item ?h1 ?h2 ?h3 ?h4 ?_); (case h1 => rfl); (case h2 => rfl); (case h3 => rfl); (case h4 => exact fun _ => rfl))
  | ((with_reducible refine' ex_bits ?h1 ?h2 ?_); (case h1 => rfl); (case h2 => rfl))
  | ((with_reducible refine' ex_callTy (T := "int") ?h1 ?h2 ?h3 ?h4 ?h5 ?h6 ?h7 ?_); (case h3 => decide +kernel); (case h1 => rfl); (case h2 => assumption); (case h4 => decide); (case h5 => decide); (case h6 => rfl); (case h7 => rfl))
  | ((with_reducible refine' ex_callB (id := "len") ?h1 ?h2 ?h3 ?h4 ?h5 ?h6 ?h7 ?_); (case h3 => decide +kernel); (case h1 => rfl); (case h2 => assumption); (case h4 => decide); (case h5 => decide); (case h6 => rfl); (case h7 => rfl))
  | ((with_reducible refine' ex_callB (id := "sum") ?h1 ?h2 ?h3 ?h4 ?h5 ?h6 ?h7 ?_); (case h3 => decide +kernel); (case h1 => rfl); (case h2 => assumption); (case h4 => decide); (case h5 => decide); (case h6 => rfl); (case h7 => rfl))
  | ((with_reducible refine' ex_callB (id := "max") ?h1 ?h2 ?h3 ?h4 ?h5 ?h6 ?h7 ?_); (case h3 => decide +kernel); (case h1 => rfl); (case h2 => assumption); (case h4 => decide); (case h5 => decide); (case h6 => rfl); (case h7 => rfl))
  | ((with_reducible refine' ex_callB (id := "min") ?h1 ?h2 ?h3 ?h4 ?h5 ?h6 ?h7 ?_); (case h3 => decide +kernel); (case h1 => rfl); (case h2 => assumption); (case h4 => decide); (case h5 => decide); (case h6 => rfl); (case h7 => rfl))
  | ((with_reducible refine' cg_int ?_))
  | ((with_reducible refine' cg_max2 ?h1 ?_); (case h1 => rfl))
  | ((with_reducible refine' cg_min2 ?h1 ?_); (case h1 => rfl))
  | ((with_reducible refine' ex_callB (id := "isinstance") ?h1 ?h2 ?h3 ?h4 ?h5 ?h6 ?h7 ?_); (case h3 => decide +kernel); (case h1 => rfl); (case h2 => assumption); (case h4 => decide); (case h5 => decide); (case h6 => rfl); (case h7 => rfl))
  | walk_at "par"
  | ((with_reducible refine' ex_and ?_))
  | ((with_reducible refine' ex_and1 ?_))
  | ((with_reducible refine' ei_one ?_))
  | ((with_reducible refine' ex_callB (id := "repr") ?h1 ?h2 ?h3 ?h4 ?h5 ?h6 ?h7 ?_); (case h3 => decide +kernel); (case h1 => rfl); (case h2 => assumption); (case h4 => decide); (case h5 => decide); (case h6 => rfl); (case h7 => rfl))
  | ((with_reducible refine' et_val ?h1 ?_); (case h1 => exact fun _ => rfl))
  | ((with_reducible refine' eo_some ?_))
  | ((with_reducible refine' eo_none ?_))
  | walk_at "call"
  | walk_at "call0")
set_option hygiene false in
local macro_rules | `(tactic| walk_at "own") => `(tactic| first
  | ((with_reducible refine' ex_oxE1 ?C ?hr ?hk ?hg ?hdb ?he ?hpl ?_); (case C => exact hE _ (by decide +kernel)); (case hr => assumption); (case hk => decide); (case hg => rfl); (case hdb => decide); (case he => rfl); (case hpl => rfl))
  | ((with_reducible refine' ex_oxE0 ?C ?hr ?hk ?hg ?hdb ?_); (case C => exact hE _ (by decide +kernel)); (case hr => assumption); (case hk => decide); (case hg => rfl); (case hdb => decide))
  | ((with_reducible refine' ex_oxEK ?C ?hr ?hk ?hg ?hdb ?hall ?hks ?hpl ?_); (case C => exact hE _ (by decide +kernel)); (case hr => assumption); (case hk => decide); (case hg => rfl); (case hdb => decide); (case hall => rfl); (case hks => rfl); (case hpl => rfl))
  | ((with_reducible refine' ex_globC ?hg ?hm ?hd ?_); (case hg => rfl); (case hm => exact hM _ (by decide +kernel)); (case hd => decide))
  | ((with_reducible refine' ex_callB (id := "isinstance") ?h1 ?h2 ?h3 ?h4 ?h5 ?h6 ?h7 ?_); (case h3 => decide +kernel); (case h1 => rfl); (case h2 => assumption); (case h4 => decide); (case h5 => decide); (case h6 => rfl); (case h7 => rfl)))
local macro_rules | `(tactic| walk_at "tlo") => `(tactic| first | walk_at "tl" | walk_at "own")
local macro_rules | `(tactic| walk_at "sup") => `(tactic| first | assumption | (apply List.Mem.tail; walk_at "sup"))
local macro_rules | `(tactic| walk_at "mem") => `(tactic| first | exact Or.inr (List.Mem.head _) | (refine Or.inr (List.Mem.tail _ ?_); walk_at "led"))
def top (i : Nat) : Stmt := PySem.Challenge.pw_turnlines_k64_errors_made.main.body.getD i (.Pass ⟨0, 0, 0, 0⟩)
abbrev FnP (K : PySem.W.Frag) (x : Str) (st : Stmt) (f : Addr) (fd : FuncData) : Prop := FunD K x x (defArgs st) (defBody st) (defScope st) [] [] f fd
abbrev s_hash : Stmt := top 15
abbrev s_random : Stmt := top 16
abbrev s_cell : Stmt := top 17
abbrev s_generator : Stmt := top 18
theorem sc_hash : FnScope ["_law_seed", "_law_index", "_law_mixed"] ["_law_seed", "_law_index"] (defScope s_hash) := ⟨rfl, rfl, rfl, by decide +kernel, rfl, by decide +kernel, by decide +kernel⟩
theorem sc_random : FnScope ["_law_generator_here", "_law_bound", "_law_drawn", "_law_turn"] ["_law_generator_here", "_law_bound"] (defScope s_random) := ⟨rfl, rfl, rfl, by decide +kernel, rfl, by decide +kernel, by decide +kernel⟩
theorem sc_cell : FnScope ["_law_script", "_law_index"] ["_law_script", "_law_index"] (defScope s_cell) := ⟨rfl, rfl, rfl, by decide +kernel, rfl, by decide +kernel, by decide +kernel⟩
theorem sc_generator : FnScope ["_law_script", "_law_index", "_law_seed"] ["_law_script", "_law_index"] (defScope s_generator) := ⟨rfl, rfl, rfl, by decide +kernel, rfl, by decide +kernel, by decide +kernel⟩
section
variable {P : Program} {w : World} {K : PySem.W.Frag} {mg : Str → Option Value} {base : Heap} {ts : Ts} {f f1 : Addr} {fd fd1 : FuncData}
def prHash : PrT := fun vs F l R _ => ∃ a b : Int, vs = [.int a, .int b] ∧ (0 ≤ a ∧ a < 2147483647) ∧ (0 ≤ b ∧ b < 1000000000) ∧ ∀ r : Int, 0 ≤ r → r < 2147483647 → R (.int r) F l
theorem ok_hash (Fd : FnP K "_law_hash" s_hash f fd) (mi : mg "int" = none) : FnG P w K mg base CX0 1 f fd ["_law_seed", "_law_index"] (spL ts prHash) := by
  refine fn_ok Fd sc_hash (fun vs F l R RE h => ?_) fun cdv A outer s H E hr vs F l R RE hp => ?_
  · obtain ⟨a, b, rfl, _⟩ := h
    rfl
  · obtain ⟨a, b, rfl, ha, hb, q⟩ := hp
    have nd : Nd _ := sc_hash.nd
    have a1 : a.natAbs < 2 ^ 31 := by omega
    have b1 : b.natAbs < 2 ^ 31 := by omega
    have b2 : (27644437 * b).natAbs < 2 ^ 63 := by omega
    refine bx_cons ?_
    repeat walk_at "tl"
    refine og_mul_int (cmul_small (Nat.lt_trans a1 (by decide)) (by decide)) ?_
    repeat walk_at "tl"
    refine og_mul_int (cmul_small (by decide) (Nat.lt_trans b1 (by decide))) ?_
    repeat walk_at "tl"
    refine og_mul_int (cmul_small (Nat.lt_trans b2 (by decide)) (Nat.lt_trans b1 (by decide))) ?_
    repeat walk_at "tl"
    refine og_mul_int (cmul_small (by decide) (Nat.lt_trans b1 (by decide))) ?_
    repeat walk_at "tl"
    refine og_mod_gen (by decide) fun m m0 m1 => ?_
    have m2 : m.natAbs < 2 ^ 31 := by omega
    repeat walk_at "tl"
    refine og_mul_int (cmul_small (Nat.lt_trans m2 (by decide)) (Nat.lt_trans m2 (by decide))) ?_
    repeat walk_at "tl"
    refine og_mul_int (cmul_small (by decide) (Nat.lt_trans b1 (by decide))) ?_
    repeat walk_at "tl"
    refine og_mod_gen (by decide) fun n n0 n1 => ?_
    have n2 : n.natAbs < 2 ^ 31 := by omega
    repeat walk_at "tl"
    refine og_mul_int (cmul_small (Nat.lt_trans n2 (by decide)) (by decide)) ?_
    repeat walk_at "tl"
    refine og_mod_gen (by decide) fun r r0 r1 => ?_
    exact Up.of (q r r0 r1)
/-- the generator's list -/
structure GenOk (a s c m : Int) : Prop where
  a0 : 0 ≤ a
  a1 : a < 10 ^ 600
  s0 : 0 ≤ s
  s1 : s < 2147483647
  c0 : 0 ≤ c
  c1 : c ≤ m
abbrev GenL (a s c : Int) : HO := .lst [.int a, .int s, .int c]
def prRandom : PrT := fun vs F l R _ => ∃ (g : Addr) (n : Int) (i : Nat) (a s c m : Int), vs = [.ref g, .int n] ∧ l[i]? = some (g, GenL a s c) ∧ GenOk a s c m ∧ m < 900000000 ∧ 1 ≤ n ∧ n < 2 ^ 119 ∧
  ∀ r a' c', 0 ≤ r → r < n → GenOk a' s c' (m + 5) → R (.int r) F (l.set i (g, GenL a' s c'))
theorem ok_random (Fd : FnP K "_law_random" s_random f fd) (Ch : Callee P w K mg base ts CX0 1 "_law_hash" ["_law_seed", "_law_index"] prHash f1 fd1) (mi : mg "int" = none) (mr : mg "range" = none) : FnG P w K mg base CX0 2 f fd ["_law_generator_here", "_law_bound"] (spL ts prRandom) := by
  refine fn_ok Fd sc_random (fun vs F l R RE h => ?_) fun cdv A outer s H E hr vs F l R RE hp => ?_
  · obtain ⟨g, n, i, a, s, c, m, rfl, _⟩ := h
    rfl
  · obtain ⟨g, n, i, a, s, c, m, rfl, hl, G, hm, n1, n2, q⟩ := hp
    have nd : Nd _ := sc_random.nd
    have hi : i < l.length := (List.getElem?_eq_some_iff.mp hl).1
    have hG : IsL K F l g [.int a, .int s, .int c] := .inr (List.mem_of_getElem? hl)
    have hset : ∀ a' s' c' : Int, (l.set i (g, GenL a' s' c'))[i]? = some (g, GenL a' s' c') := fun _ _ _ => List.getElem?_set_self hi
    refine bx_cons ?_
    repeat walk_at "tl"
    refine gg_list hG rfl ?_
    repeat walk_at "tl"
    refine ⟨_, rfl, fun hk => ?_, fun hk => ?_⟩
    · have ha : 0 < a := of_decide_eq_true hk
      repeat walk_at "tl"
      refine gg_list hG rfl ?_
      repeat walk_at "tl"
      refine og_mod_gen (by omega) fun r r0 r1 => ?_
      repeat walk_at "tl"
      refine gg_list hG rfl ?_
      repeat walk_at "tl"
      refine og_fdiv_int (cdiv_600 (by omega) n2) ?_
      repeat walk_at "tl"
      refine ⟨g, _, 0, i, 0, rfl, rfl, hl, rfl, ?_⟩
      repeat walk_at "tl"
      refine Up.of (q r _ c r0 r1 ⟨Int.ediv_nonneg G.a0 (by omega), Int.lt_of_le_of_lt (Int.ediv_le_self _ G.a0) G.a1, G.s0, G.s1, G.c0, by have := G.c1; omega⟩)
    · repeat walk_at "tl"
      walk_at "for1"
      repeat walk_at "tl"
      refine ⟨n, rfl, ?_⟩
      repeat walk_at "tl"
      have hb : Builtin.Int.intBits n ≤ 119 := bits_le (by omega)
      refine og_fdiv_int (cdiv_600 (by decide) (by decide)) ?_
      repeat walk_at "tl"
      refine ⟨_, fun j σ' F' l' => F' = F ∧ ∃ (d c' : Int) (t : Option V), σ' = [some (.ref g), some (.int n), some (.int d), t] ∧ l' = l.set i (g, GenL a s c') ∧ d.natAbs < 2 ^ (32 * j) ∧ GenOk a s c' (m + j), rfl, by omega, by omega, ⟨rfl, 0, c, none, rfl, ?_, by decide, ?_⟩, ?_, ?_⟩
      · apply List.ext_getElem?
        intro k
        by_cases hk : i = k
        · subst hk; rw [hset, hl]
        · rw [List.getElem?_set_ne hk]
      · exact ⟨G.a0, G.a1, G.s0, G.s1, G.c0, by have := G.c1; omega⟩
      · rintro j σ' F' l' hj ⟨rfl, d, c', t, rfl, rfl, hd, G'⟩
        have j4 : j ≤ 3 := by omega
        have hG' : IsL K F' (l.set i (g, GenL a s c')) g [.int a, .int s, .int c'] := .inr (List.mem_of_getElem? (hset a s c'))
        refine bx_cons ?_
        repeat walk_at "tl"
        refine gg_list hG' rfl ?_
        repeat walk_at "tl"
        refine ⟨g, _, 2, i, 2, rfl, rfl, hset a s c', rfl, ?_⟩
        rw [List.set_set]
        have hG2 : IsL K F' (l.set i (g, GenL a s (c' + 1))) g [.int a, .int s, .int (c' + 1)] := .inr (List.mem_of_getElem? (hset a s (c' + 1)))
        have c0 := G'.c0
        have c1 := G'.c1
        have d2 : d.natAbs < 2 ^ 96 := Nat.lt_of_lt_of_le hd (Nat.pow_le_pow_right (by decide) (by omega))
        repeat walk_at "tl"
        refine og_mul_int (wide_mul (b := 32) d2 (by decide) (by decide) (by decide) (by decide)) ?_
        repeat walk_at "tl"
        refine gg_list hG2 rfl ?_
        repeat walk_at "tl"
        refine gg_list hG2 rfl ?_
        repeat walk_at "tl"
        refine ⟨s, c' + 1, rfl, ⟨G'.s0, G'.s1⟩, ⟨by omega, by omega⟩, fun r r0 r1 => ?_⟩
        repeat walk_at "tl"
        refine ⟨_, _, Ent.rfl, ?_⟩
        refine ⟨rfl, _, c' + 1, _, rfl, rfl, ?_, ⟨G'.a0, G'.a1, G'.s0, G'.s1, by omega, by omega⟩⟩
        have e1 : (d * 2147483587 + r).natAbs ≤ d.natAbs * 2147483587 + 2147483647 := by omega
        have e2 : 2 ^ (32 * (j + 1)) = 2 ^ (32 * j) * 4294967296 := by rw [Nat.mul_add, Nat.pow_add]
        omega
      · rintro σ' F' l' ⟨rfl, d, c', t, rfl, rfl, hd, G'⟩
        repeat walk_at "tl"
        refine og_mod_gen (by omega) fun r r0 r1 => ?_
        exact Up.of (q r _ c' r0 r1 ⟨G'.a0, G'.a1, G'.s0, G'.s1, G'.c0, by have := G'.c1; omega⟩)

def prCell (K : PySem.W.Frag) : PrT := fun vs F l R _ => ∃ (p : Addr) (i : Int) (ns : List Int), vs = [.ref p, .int i] ∧ 0 ≤ i ∧ IsL K F l p (ns.map V.int) ∧ ∀ r : Int, R (.int r) F l
theorem cut1 (ns : List Int) : cutV (ns.map V.int) none (some 1) = (ns.take 1).map V.int := by
  unfold cutV
  simp [HT.sIx]
theorem ok_cell (Fd : FnP K "_law_cell" s_cell f fd) (ml : mg "len" = none) (ms : mg "sum" = none) : FnG P w K mg base CX0 1 f fd ["_law_script", "_law_index"] (spL ts (prCell K)) := by
  refine fn_ok Fd sc_cell (fun vs F l R RE h => ?_) fun cdv A outer s H E hr vs F l R RE hp => ?_
  · obtain ⟨p, i, ns, rfl, _⟩ := h
    rfl
  · obtain ⟨p, i, ns, rfl, i0, hl, q⟩ := hp
    have nd : Nd _ := sc_cell.nd
    refine bx_cons ?_
    repeat walk_at "tl"
    refine cg_len_seq (.inl hl) ?_
    repeat walk_at "tl"
    refine ⟨_, rfl, fun hk => ?_, fun hk => ?_⟩
    · have h1 : i < ((ns.map V.int).length : Int) := of_decide_eq_true hk
      rw [List.length_map] at h1
      repeat walk_at "tl"
      have h2 : i.toNat < ns.length := by omega
      refine gg_list (v := .int ns[i.toNat]) hl ?_ ?_
      · rw [atI_nn i0 (by rw [List.length_map]; exact h1), List.getElem?_map, List.getElem?_eq_getElem h2]
        rfl
      · exact Up.of (q _)
    · repeat walk_at "tl"
      refine ex_slice ?_
      repeat walk_at "tl"
      refine ⟨_, rfl, p, _, rfl, hl, fun z => ?_⟩
      repeat walk_at "tl"
      refine cg_sum (ns := ns.take 1) rfl (.inr (by rw [cut1]; exact List.Mem.head _)) ?_
      repeat walk_at "tl"
      refine og_mod_int (by decide) ?_
      exact ⟨_, _, ent_sub Sub.tail, q _⟩
def prGen (K : PySem.W.Frag) : PrT := fun vs F l R _ => ∃ (p : Addr) (i : Int) (ns : List Int), vs = [.ref p, .int i] ∧ (0 ≤ i ∧ i < 1000) ∧ IsL K F l p (ns.map V.int) ∧ ∀ g a s, GenOk a s (1000 * i) (1000 * i) → R (.ref g) F ((g, GenL a s (1000 * i)) :: l)
theorem ok_generator (Fd : FnP K "_law_generator" s_generator f fd) (Ch : Callee P w K mg base ts CX0 1 "_law_cell" ["_law_script", "_law_index"] (prCell K) f1 fd1) (mi : mg "int" = none) (mr : mg "max" = none) : FnG P w K mg base CX0 2 f fd ["_law_script", "_law_index"] (spL ts (prGen K)) := by
  refine fn_ok Fd sc_generator (fun vs F l R RE h => ?_) fun cdv A outer s H E hr vs F l R RE hp => ?_
  · obtain ⟨p, i, ns, rfl, _⟩ := h
    rfl
  · obtain ⟨p, i, ns, rfl, i0, hl, q⟩ := hp
    have nd : Nd _ := sc_generator.nd
    refine bx_cons ?_
    repeat walk_at "tl"
    refine ⟨p, i, ns, rfl, i0.1, hl, fun r => ?_⟩
    repeat walk_at "tl"
    refine og_pow_int (by decide) (by decide) ?_
    repeat walk_at "tl"
    refine og_pow_int (by decide) (by decide) ?_
    repeat walk_at "tl"
    refine og_pow_int (by decide) (by decide +kernel) ?_
    refine og_mod_gen (Int.pow_pos (Int.pow_pos (by decide))) fun a a0 a1 => ?_
    repeat walk_at "tl"
    refine og_mod_gen (by decide) fun s s0 s1 => ?_
    repeat walk_at "tl"
    refine og_mul_int (wide_mul (a := 32) (b := 32) (by decide) (by omega) (by decide) (by decide) (by decide)) ?_
    repeat walk_at "tl"
    refine ⟨szl rfl, fun g => ?_⟩
    have e : ((10 : Int) ^ (60 : Int).toNat) ^ (10 : Int).toNat = 10 ^ 600 := by
      rw [← Int.pow_mul]
      rfl
    rw [e] at a1
    exact Up.of (q g a s ⟨a0, a1, s0, s1, by omega, by omega⟩)
end

abbrev s_value : Stmt := top 19
theorem sc_value : FnScope ["_law_generator_here", "_law_way", "_law_number"] ["_law_generator_here"] (defScope s_value) := ⟨rfl, rfl, rfl, by decide +kernel, rfl, by decide +kernel, by decide +kernel⟩
section
variable {P : Program} {w : World} {K : PySem.W.Frag} {mg : Str → Option Value} {base : Heap} {ts : Ts} {f f1 : Addr} {fd fd1 : FuncData}
def prValue (K : PySem.W.Frag) : PrT := fun vs F l R _ => ∃ (g : Addr) (a s c m : Int), vs = [.ref g] ∧ l = [(g, GenL a s c)] ∧ GenOk a s c m ∧ m < 800000000 ∧ ∀ v d l', Dt K F l' v d → DOk d → R v F l'
theorem mulok_one {x : Str} {n : Int} (hx : x.length = 1) (h0 : 0 ≤ n) (h1 : n < 100) : MulOk x n := by
  refine ⟨by simp; omega, fun h2 h3 h4 => ?_, fun h2 h3 => ?_⟩
  · rw [hx] at h4
    have : (2 ^ 63 - 1) / n ≥ 1 := by
      have : n ≤ 2 ^ 63 - 1 := by omega
      exact (Int.le_ediv_iff_mul_le (by omega)).mpr (by omega)
    omega
  · rw [hx, Nat.one_mul]
    exact decide_eq_false (by rw [sizeLine_eq]; omega)
theorem dok_pair {n : Int} (h : n.natAbs < 2 ^ 100) : DOk (.tuple [.int n, .str "u"]) := by
  have hl := len_small h
  refine ⟨?_, rfl, Nat.le_of_ble_eq_true rfl, ?_⟩
  · show (decide (n.natAbs.log2 < 1920) && _) = true
    rw [decide_eq_true (log_small h)]
    rfl
  · have e1 : (Str.ofString ", ").length = 2 := rfl
    have e2 : (reprText "u").length = 3 := by decide +kernel
    have e3 : (Str.ofString "(").length = 1 := rfl
    have e4 : (Str.ofString ")").length = 1 := rfl
    show (("(" : Str) ++ Str.join ", " [Str.ofString (toString n), reprText "u"] ++ (Str.ofString ")")).length ≤ sizeLine
    have e5 := join_length_add [Str.ofString (toString n), reprText "u"] (by simp)
    rw [piled_cons, piled_cons, piled_nil] at e5
    rw [strLen_append, strLen_append, sizeLine_eq]
    omega
theorem dok_deep {n : Int} (h : n.natAbs < 2 ^ 100) : DOk (.list [.int n, .none, .list [.int n]]) := by
  have hl := len_small h
  refine ⟨?_, rfl, Nat.le_of_ble_eq_true rfl, ?_⟩
  · show (decide (n.natAbs.log2 < 1920) && (true && ((decide (n.natAbs.log2 < 1920) && true) && true))) = true
    rw [decide_eq_true (log_small h)]
    rfl
  · have e1 : (Str.ofString ", ").length = 2 := rfl
    have e2 : (Str.ofString "None").length = 4 := rfl
    have e3 : (Str.ofString "[").length = 1 := rfl
    have e4 : (Str.ofString "]").length = 1 := rfl
    have e0 : (Str.ofString "").length = 0 := rfl
    show (Str.ofString "[" ++ Str.ofString "" ++ Str.ofString (toString n) ++ Str.ofString ", " ++ Str.ofString "None" ++ Str.ofString ", " ++ (Str.ofString "[" ++ Str.ofString "" ++ Str.ofString (toString n) ++ Str.ofString "]") ++ Str.ofString "]").length ≤ sizeLine
    simp only [strLen_append]
    rw [sizeLine_eq]
    omega
theorem dok_rep {x : Str} {n : Int} (hx : x = "u" ∨ x = "l") (h0 : 0 ≤ n) (h1 : n < 9) : DOk (.str (Txt.mul x n)) := by
  refine ⟨rfl, rfl, by show 0 ≤ 64; decide, ?_⟩
  obtain ⟨k, rfl⟩ := Int.eq_ofNat_of_zero_le h0
  have hk : k < 9 := by omega
  have key : ∀ k, k < 9 → (PyData.str (Txt.mul "u" (k : Nat))).shown.length ≤ sizeLine ∧ (PyData.str (Txt.mul "l" (k : Nat))).shown.length ≤ sizeLine := by decide +kernel
  rcases hx with rfl | rfl
  · exact (key k hk).1
  · exact (key k hk).2
theorem ok_value (Fd : FnP K "_law_value" s_value f fd) (Ch : Callee P w K mg base ts CX0 2 "_law_random" ["_law_generator_here", "_law_bound"] prRandom f1 fd1) : FnG P w K mg base CX0 3 f fd ["_law_generator_here"] (spL ts (prValue K)) := by
  refine fn_ok Fd sc_value (fun vs F l R RE h => ?_) fun cdv A outer s H E hr vs F l R RE hp => ?_
  · obtain ⟨g, a, s, c, m, rfl, _⟩ := h
    rfl
  · obtain ⟨g, a, s, c, m, rfl, rfl, G, hm, q⟩ := hp
    have nd : Nd _ := sc_value.nd
    refine bx_cons ?_
    repeat walk_at "tl"
    refine ⟨g, 6, 0, a, s, c, m, rfl, rfl, G, by omega, by decide, by decide, fun way a1 c1 w0 w1 G1 => ?_⟩
    repeat walk_at "tl"
    refine ⟨_, rfl, fun hk => ?_, fun hk => ?_⟩
    · have ha : way < 2 := of_decide_eq_true hk
      repeat walk_at "tl"
      refine ⟨g, 2, 0, a1, s, c1, _, rfl, rfl, G1, by omega, by decide, by decide, fun r a2 c2 r0 r1 G2 => ?_⟩
      repeat walk_at "tl"
      refine ⟨szl rfl, fun z => ?_⟩
      repeat walk_at "tl"
      have e : way = 0 ∨ way = 1 := by omega
      rcases e with rfl | rfl
      · refine gg_list (.inr (.head _)) rfl ?_
        exact ⟨_, _, ent_sub Sub.nil, q _ _ _ dt_non dok_non⟩
      · refine gg_list (.inr (.head _)) rfl ?_
        exact ⟨_, _, ent_sub Sub.nil, q _ _ _ dt_bl dok_bl⟩
    · have ha : ¬ way < 2 := of_decide_eq_false hk
      repeat walk_at "tl"
      refine og_pow_int (by decide) (by decide) ?_
      repeat walk_at "tl"
      refine ⟨g, _, 0, a1, s, c1, _, rfl, rfl, G1, by omega, by decide, by decide, fun n1 a2 c2 n10 n11 G2 => ?_⟩
      repeat walk_at "tl"
      refine og_pow_int (by decide) (by decide) ?_
      repeat walk_at "tl"
      refine ⟨g, _, 0, a2, s, c2, _, rfl, rfl, G2, by omega, by decide, by decide, fun n2 a3 c3 n20 n21 G3 => ?_⟩
      have e29 : ((10 : Int) ^ (29 : Int).toNat) = 100000000000000000000000000000 := by decide
      rw [e29] at n11 n21
      have hn : (n1 - n2).natAbs < 2 ^ 100 := by omega
      repeat walk_at "tl"
      refine ⟨_, rfl, fun hk => ?_, fun hk => ?_⟩
      · have hb : way < 4 := of_decide_eq_true hk
        repeat walk_at "tl"
        refine ⟨g, 2, 0, a3, s, c3, _, rfl, rfl, G3, by omega, by decide, by decide, fun r a4 c4 r0 r1 G4 => ?_⟩
        have er : r = 0 ∨ r = 1 := by omega
        have e : way - 2 = 0 ∨ way - 2 = 1 := by omega
        rcases er with rfl | rfl
        · refine gg_str (c := 117) (by decide +kernel) (by decide +kernel) ?_
          repeat walk_at "tl"
          refine ⟨g, 9, 0, a4, s, c4, _, rfl, rfl, G4, by omega, by decide, by decide, fun k a5 c5 k0 k1 G5 => ?_⟩
          refine og_mul_str (mulok_one rfl k0 (by omega)) ?_
          repeat walk_at "tl"
          refine ⟨szl rfl, fun z => ?_⟩
          repeat walk_at "tl"
          rcases e with e | e
          · rw [e]
            refine gg_list (.inr (.head _)) rfl ?_
            exact ⟨_, _, ent_sub Sub.nil, q _ _ _ dt_int (dok_int hn)⟩
          · rw [e]
            refine gg_list (.inr (.head _)) rfl ?_
            exact ⟨_, _, ent_sub Sub.nil, q _ _ _ dt_str (dok_rep (.inl rfl) k0 k1)⟩
        · refine gg_str (c := 108) (by decide +kernel) (by decide +kernel) ?_
          repeat walk_at "tl"
          refine ⟨g, 9, 0, a4, s, c4, _, rfl, rfl, G4, by omega, by decide, by decide, fun k a5 c5 k0 k1 G5 => ?_⟩
          refine og_mul_str (mulok_one rfl k0 (by omega)) ?_
          repeat walk_at "tl"
          refine ⟨szl rfl, fun z => ?_⟩
          repeat walk_at "tl"
          rcases e with e | e
          · rw [e]
            refine gg_list (.inr (.head _)) rfl ?_
            exact ⟨_, _, ent_sub Sub.nil, q _ _ _ dt_int (dok_int hn)⟩
          · rw [e]
            refine gg_list (.inr (.head _)) rfl ?_
            exact ⟨_, _, ent_sub Sub.nil, q _ _ _ dt_str (dok_rep (.inr rfl) k0 k1)⟩
      · have hb : ¬ way < 4 := of_decide_eq_false hk
        repeat walk_at "tl"
        refine ⟨szl rfl, fun z1 => ?_⟩
        repeat walk_at "tl"
        refine ⟨szl rfl, fun z2 => ?_⟩
        repeat walk_at "tl"
        refine ⟨szl rfl, fun z3 => ?_⟩
        repeat walk_at "tl"
        refine ⟨szl rfl, fun z4 => ?_⟩
        repeat walk_at "tl"
        have e : way - 4 = 0 ∨ way - 4 = 1 := by omega
        rcases e with e | e
        · rw [e]
          refine gg_list (.inr (.head _)) rfl ?_
          refine ⟨_, _, Ent.rfl, q _ _ _ (dt_tup (.inr (by walk_at "led")) (dta_cons dt_int (dta_cons dt_str dta_nil))) (dok_pair hn)⟩
        · rw [e]
          refine gg_list (.inr (.head _)) rfl ?_
          refine ⟨_, _, Ent.rfl, q _ _ _ (dt_lst (.inr (by walk_at "led")) (dta_cons dt_int (dta_cons dt_non (dta_cons (dt_lst (.inr (by walk_at "led")) (dta_cons dt_int dta_nil)) dta_nil)))) (dok_deep hn)⟩
end

def errs : List Str := ["InvalidOrder", "InvalidRow", "InvalidNumber", "InvalidDeed", "InvalidWord", "InvalidSet", "InvalidTable", "InvalidLengths", "InvalidCell", "InvalidRun", "Unlike", "TooMany"]
abbrev s_sorts : Stmt := top 20
theorem sc_sorts : FnScope ["_law_error", "_law_found"] ["_law_error"] (defScope s_sorts) := ⟨rfl, rfl, rfl, by decide +kernel, rfl, by decide +kernel, by decide +kernel⟩
abbrev s_bare : Stmt := top 21
theorem sc_bare : FnScope ["_law_found"] [] (defScope s_bare) := ⟨rfl, rfl, rfl, by decide +kernel, rfl, by decide +kernel, by decide +kernel⟩
abbrev s_placed : Stmt := top 22
theorem sc_placed : FnScope ["_law_value_here", "_law_found"] ["_law_value_here"] (defScope s_placed) := ⟨rfl, rfl, rfl, by decide +kernel, rfl, by decide +kernel, by decide +kernel⟩
abbrev s_named : Stmt := top 23
theorem sc_named : FnScope ["_law_value_here", "_law_found"] ["_law_value_here"] (defScope s_named) := ⟨rfl, rfl, rfl, by decide +kernel, rfl, by decide +kernel, by decide +kernel⟩
section
variable {P : Program} {w : World} {K : PySem.W.Frag} {mg : Str → Option Value} {base : Heap} {ts : Ts} {f f1 : Addr} {fd fd1 : FuncData}
def prSorts (K : PySem.W.Frag) : PrT := fun vs F l R _ => ∃ (a C : Addr) (bs : Str → Bool), vs = [.ref a] ∧ Isi K F l a C ∧ (∀ x ∈ errs, PySem.W.kitOne K (.ref C) (.ref (He.ga K x)) = some (bs x)) ∧ ∀ p, R (.ref p) F ((p, .lst (errs.map fun x => V.bl (bs x))) :: l)
theorem ok_sorts (Fd : FnP K "_law_sorts" s_sorts f fd) (mi : mg "isinstance" = none) (hM : ∀ x ∈ errs, mg x = some (.ref (He.ga K x))) : FnG P w K mg base CX0 1 f fd ["_law_error"] (spL ts (prSorts K)) := by
  refine fn_ok Fd sc_sorts (fun vs F l R RE h => ?_) fun cdv A outer s H E hr vs F l R RE hp => ?_
  · obtain ⟨a, C, bs, rfl, _⟩ := h
    rfl
  · obtain ⟨a, C, bs, rfl, hI, hk, q⟩ := hp
    have nd : Nd _ := sc_sorts.nd
    refine bx_cons ?_
    repeat walk_at "tlo"
    refine cg_isX (hI.mono fun q hq => by walk_at "sup") (hk "InvalidOrder" (by decide +kernel)) ?_
    repeat walk_at "tlo"
    refine cg_isX (hI.mono fun q hq => by walk_at "sup") (hk "InvalidRow" (by decide +kernel)) ?_
    repeat walk_at "tlo"
    refine cg_isX (hI.mono fun q hq => by walk_at "sup") (hk "InvalidNumber" (by decide +kernel)) ?_
    repeat walk_at "tlo"
    refine ⟨szl rfl, fun z0 => ?_⟩
    repeat walk_at "tlo"
    refine cg_isX (hI.mono fun q hq => by walk_at "sup") (hk "InvalidDeed" (by decide +kernel)) ?_
    repeat walk_at "tlo"
    refine cg_isX (hI.mono fun q hq => by walk_at "sup") (hk "InvalidWord" (by decide +kernel)) ?_
    repeat walk_at "tlo"
    refine cg_isX (hI.mono fun q hq => by walk_at "sup") (hk "InvalidSet" (by decide +kernel)) ?_
    repeat walk_at "tlo"
    refine ⟨szl rfl, fun z1 => ?_⟩
    repeat walk_at "tlo"
    refine og_add_lst (by walk_at "mem") (by walk_at "mem") (by rw [sizeLine_eq]; exact Nat.le_of_ble_eq_true rfl) fun y1 => ?_
    repeat walk_at "tlo"
    refine cg_isX (hI.mono fun q hq => by walk_at "sup") (hk "InvalidTable" (by decide +kernel)) ?_
    repeat walk_at "tlo"
    refine cg_isX (hI.mono fun q hq => by walk_at "sup") (hk "InvalidLengths" (by decide +kernel)) ?_
    repeat walk_at "tlo"
    refine cg_isX (hI.mono fun q hq => by walk_at "sup") (hk "InvalidCell" (by decide +kernel)) ?_
    repeat walk_at "tlo"
    refine ⟨szl rfl, fun z2 => ?_⟩
    repeat walk_at "tlo"
    refine og_add_lst (by walk_at "mem") (by walk_at "mem") (by rw [sizeLine_eq]; exact Nat.le_of_ble_eq_true rfl) fun y2 => ?_
    repeat walk_at "tlo"
    refine cg_isX (hI.mono fun q hq => by walk_at "sup") (hk "InvalidRun" (by decide +kernel)) ?_
    repeat walk_at "tlo"
    refine cg_isX (hI.mono fun q hq => by walk_at "sup") (hk "Unlike" (by decide +kernel)) ?_
    repeat walk_at "tlo"
    refine cg_isX (hI.mono fun q hq => by walk_at "sup") (hk "TooMany" (by decide +kernel)) ?_
    repeat walk_at "tlo"
    refine ⟨szl rfl, fun z3 => ?_⟩
    repeat walk_at "tlo"
    refine og_add_lst (by walk_at "mem") (by walk_at "mem") (by rw [sizeLine_eq]; exact Nat.le_of_ble_eq_true rfl) fun y3 => ?_
    repeat walk_at "tlo"
    refine ⟨_, _, ent_sub ?_, q _⟩
    refine Sub.pick 0 rfl ?_
    repeat (first | exact Sub.rfl | refine Sub.skip ?_)

def prBare (K : PySem.W.Frag) : PrT := fun vs F l R _ => vs = [] ∧ ∀ p l' us, (∀ q ∈ l, q ∈ l') → MadeA K F l' .non errs us → R (.ref p) F ((p, .lst us) :: l')
def prPlaced (K : PySem.W.Frag) : PrT := fun vs F l R _ => ∃ y, vs = [y] ∧ ∀ p l' us, (∀ q ∈ l, q ∈ l') → MadeA K F l' y errs us → R (.ref p) F ((p, .lst us) :: l')
def prNamed (K : PySem.W.Frag) : PrT := prPlaced K
theorem ok_bare (Fd : FnP K "_law_bare" s_bare f fd) (hE : ∀ x ∈ errs, OxE P w K mg base x) (hN : ∀ x ∈ errs, PySem.W.findIn K (.ref (He.ga K x)) "value" = some none) : FnG P w K mg base CX0 3 f fd [] (spL ts (prBare K)) := by
  refine fn_ok Fd sc_bare (fun vs F l R RE h => ?_) fun cdv A outer s H E hr vs F l R RE hp => ?_
  · obtain ⟨rfl, _⟩ := h
    rfl
  · obtain ⟨rfl, q⟩ := hp
    have nd : Nd _ := sc_bare.nd
    refine bx_cons ?_
    repeat walk_at "tlo"
    intro a0 d0
    repeat walk_at "tlo"
    intro a1 d1
    repeat walk_at "tlo"
    intro a2 d2
    repeat walk_at "tlo"
    intro a3 d3
    repeat walk_at "tlo"
    intro a4 d4
    repeat walk_at "tlo"
    intro a5 d5
    repeat walk_at "tlo"
    refine ⟨szl rfl, fun z0 => ?_⟩
    repeat walk_at "tlo"
    repeat walk_at "tlo"
    intro a6 d6
    repeat walk_at "tlo"
    intro a7 d7
    repeat walk_at "tlo"
    intro a8 d8
    repeat walk_at "tlo"
    intro a9 d9
    repeat walk_at "tlo"
    intro a10 d10
    repeat walk_at "tlo"
    intro a11 d11
    repeat walk_at "tlo"
    refine ⟨szl rfl, fun z1 => ?_⟩
    repeat walk_at "tlo"
    refine og_add_lst (by walk_at "mem") (by walk_at "mem") (by rw [sizeLine_eq]; exact Nat.le_of_ble_eq_true rfl) fun y1 => ?_
    repeat walk_at "tlo"
    refine ⟨_, _, Ent.rfl, q _ _ _ (fun q hq => by walk_at "sup") ?_⟩
    refine ⟨⟨a0, rfl, ⟨⟨d0, by walk_at "mem", by walk_at "mem"⟩, hN _ (by decide +kernel)⟩⟩, ?_⟩
    refine ⟨⟨a1, rfl, ⟨⟨d1, by walk_at "mem", by walk_at "mem"⟩, hN _ (by decide +kernel)⟩⟩, ?_⟩
    refine ⟨⟨a2, rfl, ⟨⟨d2, by walk_at "mem", by walk_at "mem"⟩, hN _ (by decide +kernel)⟩⟩, ?_⟩
    refine ⟨⟨a3, rfl, ⟨⟨d3, by walk_at "mem", by walk_at "mem"⟩, hN _ (by decide +kernel)⟩⟩, ?_⟩
    refine ⟨⟨a4, rfl, ⟨⟨d4, by walk_at "mem", by walk_at "mem"⟩, hN _ (by decide +kernel)⟩⟩, ?_⟩
    refine ⟨⟨a5, rfl, ⟨⟨d5, by walk_at "mem", by walk_at "mem"⟩, hN _ (by decide +kernel)⟩⟩, ?_⟩
    refine ⟨⟨a6, rfl, ⟨⟨d6, by walk_at "mem", by walk_at "mem"⟩, hN _ (by decide +kernel)⟩⟩, ?_⟩
    refine ⟨⟨a7, rfl, ⟨⟨d7, by walk_at "mem", by walk_at "mem"⟩, hN _ (by decide +kernel)⟩⟩, ?_⟩
    refine ⟨⟨a8, rfl, ⟨⟨d8, by walk_at "mem", by walk_at "mem"⟩, hN _ (by decide +kernel)⟩⟩, ?_⟩
    refine ⟨⟨a9, rfl, ⟨⟨d9, by walk_at "mem", by walk_at "mem"⟩, hN _ (by decide +kernel)⟩⟩, ?_⟩
    refine ⟨⟨a10, rfl, ⟨⟨d10, by walk_at "mem", by walk_at "mem"⟩, hN _ (by decide +kernel)⟩⟩, ?_⟩
    refine ⟨⟨a11, rfl, ⟨⟨d11, by walk_at "mem", by walk_at "mem"⟩, hN _ (by decide +kernel)⟩⟩, ?_⟩
    exact True.intro
theorem ok_placed (Fd : FnP K "_law_placed" s_placed f fd) (hE : ∀ x ∈ errs, OxE P w K mg base x) (hN : ∀ x ∈ errs, PySem.W.findIn K (.ref (He.ga K x)) "value" = some none) : FnG P w K mg base CX0 3 f fd ["_law_value_here"] (spL ts (prPlaced K)) := by
  refine fn_ok Fd sc_placed (fun vs F l R RE h => ?_) fun cdv A outer s H E hr vs F l R RE hp => ?_
  · obtain ⟨y, rfl, _⟩ := h
    rfl
  · obtain ⟨y, rfl, q⟩ := hp
    have nd : Nd _ := sc_placed.nd
    refine bx_cons ?_
    repeat walk_at "tlo"
    intro a0 d0
    repeat walk_at "tlo"
    intro a1 d1
    repeat walk_at "tlo"
    intro a2 d2
    repeat walk_at "tlo"
    intro a3 d3
    repeat walk_at "tlo"
    intro a4 d4
    repeat walk_at "tlo"
    refine ⟨szl rfl, fun z0 => ?_⟩
    repeat walk_at "tlo"
    repeat walk_at "tlo"
    intro a5 d5
    repeat walk_at "tlo"
    intro a6 d6
    repeat walk_at "tlo"
    intro a7 d7
    repeat walk_at "tlo"
    intro a8 d8
    repeat walk_at "tlo"
    refine ⟨szl rfl, fun z1 => ?_⟩
    repeat walk_at "tlo"
    refine og_add_lst (by walk_at "mem") (by walk_at "mem") (by rw [sizeLine_eq]; exact Nat.le_of_ble_eq_true rfl) fun y1 => ?_
    repeat walk_at "tlo"
    repeat walk_at "tlo"
    intro a9 d9
    repeat walk_at "tlo"
    intro a10 d10
    repeat walk_at "tlo"
    intro a11 d11
    repeat walk_at "tlo"
    refine ⟨szl rfl, fun z2 => ?_⟩
    repeat walk_at "tlo"
    refine og_add_lst (by walk_at "mem") (by walk_at "mem") (by rw [sizeLine_eq]; exact Nat.le_of_ble_eq_true rfl) fun y2 => ?_
    repeat walk_at "tlo"
    refine ⟨_, _, Ent.rfl, q _ _ _ (fun q hq => by walk_at "sup") ?_⟩
    refine ⟨⟨a0, rfl, ⟨⟨d0, by walk_at "mem", by walk_at "mem"⟩, hN _ (by decide +kernel)⟩⟩, ?_⟩
    refine ⟨⟨a1, rfl, ⟨⟨d1, by walk_at "mem", by walk_at "mem"⟩, hN _ (by decide +kernel)⟩⟩, ?_⟩
    refine ⟨⟨a2, rfl, ⟨⟨d2, by walk_at "mem", by walk_at "mem"⟩, hN _ (by decide +kernel)⟩⟩, ?_⟩
    refine ⟨⟨a3, rfl, ⟨⟨d3, by walk_at "mem", by walk_at "mem"⟩, hN _ (by decide +kernel)⟩⟩, ?_⟩
    refine ⟨⟨a4, rfl, ⟨⟨d4, by walk_at "mem", by walk_at "mem"⟩, hN _ (by decide +kernel)⟩⟩, ?_⟩
    refine ⟨⟨a5, rfl, ⟨⟨d5, by walk_at "mem", by walk_at "mem"⟩, hN _ (by decide +kernel)⟩⟩, ?_⟩
    refine ⟨⟨a6, rfl, ⟨⟨d6, by walk_at "mem", by walk_at "mem"⟩, hN _ (by decide +kernel)⟩⟩, ?_⟩
    refine ⟨⟨a7, rfl, ⟨⟨d7, by walk_at "mem", by walk_at "mem"⟩, hN _ (by decide +kernel)⟩⟩, ?_⟩
    refine ⟨⟨a8, rfl, ⟨⟨d8, by walk_at "mem", by walk_at "mem"⟩, hN _ (by decide +kernel)⟩⟩, ?_⟩
    refine ⟨⟨a9, rfl, ⟨⟨d9, by walk_at "mem", by walk_at "mem"⟩, hN _ (by decide +kernel)⟩⟩, ?_⟩
    refine ⟨⟨a10, rfl, ⟨⟨d10, by walk_at "mem", by walk_at "mem"⟩, hN _ (by decide +kernel)⟩⟩, ?_⟩
    refine ⟨⟨a11, rfl, ⟨⟨d11, by walk_at "mem", by walk_at "mem"⟩, hN _ (by decide +kernel)⟩⟩, ?_⟩
    exact True.intro
theorem ok_named (Fd : FnP K "_law_named" s_named f fd) (hE : ∀ x ∈ errs, OxE P w K mg base x) (hN : ∀ x ∈ errs, PySem.W.findIn K (.ref (He.ga K x)) "value" = some none) : FnG P w K mg base CX0 3 f fd ["_law_value_here"] (spL ts (prNamed K)) := by
  refine fn_ok Fd sc_named (fun vs F l R RE h => ?_) fun cdv A outer s H E hr vs F l R RE hp => ?_
  · obtain ⟨y, rfl, _⟩ := h
    rfl
  · obtain ⟨y, rfl, q⟩ := hp
    have nd : Nd _ := sc_named.nd
    refine bx_cons ?_
    repeat walk_at "tlo"
    intro a0 d0
    repeat walk_at "tlo"
    intro a1 d1
    repeat walk_at "tlo"
    intro a2 d2
    repeat walk_at "tlo"
    intro a3 d3
    repeat walk_at "tlo"
    refine ⟨szl rfl, fun z0 => ?_⟩
    repeat walk_at "tlo"
    repeat walk_at "tlo"
    intro a4 d4
    repeat walk_at "tlo"
    intro a5 d5
    repeat walk_at "tlo"
    intro a6 d6
    repeat walk_at "tlo"
    refine ⟨szl rfl, fun z1 => ?_⟩
    repeat walk_at "tlo"
    refine og_add_lst (by walk_at "mem") (by walk_at "mem") (by rw [sizeLine_eq]; exact Nat.le_of_ble_eq_true rfl) fun y1 => ?_
    repeat walk_at "tlo"
    repeat walk_at "tlo"
    intro a7 d7
    repeat walk_at "tlo"
    intro a8 d8
    repeat walk_at "tlo"
    intro a9 d9
    repeat walk_at "tlo"
    refine ⟨szl rfl, fun z2 => ?_⟩
    repeat walk_at "tlo"
    refine og_add_lst (by walk_at "mem") (by walk_at "mem") (by rw [sizeLine_eq]; exact Nat.le_of_ble_eq_true rfl) fun y2 => ?_
    repeat walk_at "tlo"
    repeat walk_at "tlo"
    intro a10 d10
    repeat walk_at "tlo"
    intro a11 d11
    repeat walk_at "tlo"
    refine ⟨szl rfl, fun z3 => ?_⟩
    repeat walk_at "tlo"
    refine og_add_lst (by walk_at "mem") (by walk_at "mem") (by rw [sizeLine_eq]; exact Nat.le_of_ble_eq_true rfl) fun y3 => ?_
    repeat walk_at "tlo"
    refine ⟨_, _, Ent.rfl, q _ _ _ (fun q hq => by walk_at "sup") ?_⟩
    refine ⟨⟨a0, rfl, ⟨⟨d0, by walk_at "mem", by walk_at "mem"⟩, hN _ (by decide +kernel)⟩⟩, ?_⟩
    refine ⟨⟨a1, rfl, ⟨⟨d1, by walk_at "mem", by walk_at "mem"⟩, hN _ (by decide +kernel)⟩⟩, ?_⟩
    refine ⟨⟨a2, rfl, ⟨⟨d2, by walk_at "mem", by walk_at "mem"⟩, hN _ (by decide +kernel)⟩⟩, ?_⟩
    refine ⟨⟨a3, rfl, ⟨⟨d3, by walk_at "mem", by walk_at "mem"⟩, hN _ (by decide +kernel)⟩⟩, ?_⟩
    refine ⟨⟨a4, rfl, ⟨⟨d4, by walk_at "mem", by walk_at "mem"⟩, hN _ (by decide +kernel)⟩⟩, ?_⟩
    refine ⟨⟨a5, rfl, ⟨⟨d5, by walk_at "mem", by walk_at "mem"⟩, hN _ (by decide +kernel)⟩⟩, ?_⟩
    refine ⟨⟨a6, rfl, ⟨⟨d6, by walk_at "mem", by walk_at "mem"⟩, hN _ (by decide +kernel)⟩⟩, ?_⟩
    refine ⟨⟨a7, rfl, ⟨⟨d7, by walk_at "mem", by walk_at "mem"⟩, hN _ (by decide +kernel)⟩⟩, ?_⟩
    refine ⟨⟨a8, rfl, ⟨⟨d8, by walk_at "mem", by walk_at "mem"⟩, hN _ (by decide +kernel)⟩⟩, ?_⟩
    refine ⟨⟨a9, rfl, ⟨⟨d9, by walk_at "mem", by walk_at "mem"⟩, hN _ (by decide +kernel)⟩⟩, ?_⟩
    refine ⟨⟨a10, rfl, ⟨⟨d10, by walk_at "mem", by walk_at "mem"⟩, hN _ (by decide +kernel)⟩⟩, ?_⟩
    refine ⟨⟨a11, rfl, ⟨⟨d11, by walk_at "mem", by walk_at "mem"⟩, hN _ (by decide +kernel)⟩⟩, ?_⟩
    exact True.intro
end

abbrev s_made : Stmt := top 24
theorem sc_made : FnScope ["_law_made", "_law_value_here", "_law_at", "_law_error", "_law_place"] ["_law_made", "_law_value_here"] (defScope s_made) := ⟨rfl, rfl, rfl, by decide +kernel, rfl, by decide +kernel, by decide +kernel⟩
section
variable {P : Program} {w : World} {K : PySem.W.Frag} {mg : Str → Option Value} {base : Heap} {ts : Ts} {f f1 : Addr} {fd fd1 : FuncData}
def prMR (K : PySem.W.Frag) : PrT := fun vs F l R _ => ∃ (p : Addr) (y : V) (us : List V) (d : PyData), vs = [.ref p, y] ∧ IsL K F l p us ∧ MadeA K F l y errs us ∧ Dt K F l y d ∧ DOk d ∧ R (.bl true) F l
theorem sorts_key (n : Nat) (hn : n < 12) (x : Str) (hx : errs[n]? = some x) : (errs.map fun y => decide (x = y)) = (List.range 12).map (fun (k : Nat) => decide ((k : Int) = (n : Int))) ∧ SeqAt.shaped (.list ((errs.map fun y => decide (x = y)).map .bool)) = true ∧
    PyData.eqv (.list ((errs.map fun y => decide (x = y)).map .bool)) (.list ((errs.map fun y => decide (x = y)).map .bool)) = true := by
  have h : ∀ n : Nat, n < 12 → ((errs.map fun y => decide (errs.getD n "" = y)) = (List.range 12).map (fun (k : Nat) => decide ((k : Int) = (n : Int))) ∧ SeqAt.shaped (.list ((errs.map fun y => decide (errs.getD n "" = y)).map .bool)) = true ∧
    PyData.eqv (.list ((errs.map fun y => decide (errs.getD n "" = y)).map .bool)) (.list ((errs.map fun y => decide (errs.getD n "" = y)).map .bool)) = true) := by
    decide +kernel
  have q := h n hn
  rw [List.getD_eq_getElem?_getD, hx] at q
  exact q
theorem dta_bls {F : Hp} {l : Led} : ∀ {bs : List Bool}, DtA K F l (bs.map V.bl) (bs.map PyData.bool)
  | [] => dta_nil
  | _ :: _ => dta_cons dt_bl dta_bls
theorem ok_made (Fd : FnP K "_law_made_right" s_made f fd) (Ch : Callee P w K mg base ts CX0 1 "_law_sorts" ["_law_error"] (prSorts K) f1 fd1)
    (m1 : mg "enumerate" = none) (m2 : mg "range" = none) (m3 : mg "repr" = none) (m4 : mg "isinstance" = none) (m5 : mg "ValueError" = none) (m6 : mg "len" = none) (hTg : mg "TurnError" = some (.ref (He.ga K "TurnError")))
    (hk : ∀ x ∈ errs, ∀ y ∈ errs, PySem.W.kitOne K (.ref (He.ga K x)) (.ref (He.ga K y)) = some (decide (x = y))) (hX : ∀ x ∈ errs, ExcC K (He.ga K x) ∧ XfC K (He.ga K x))
    (hT : ∀ x ∈ errs, PySem.W.kitOne K (.ref (He.ga K x)) (.ref (He.ga K "TurnError")) = some true) (hV : ∀ x ∈ errs, PySem.W.kitOne K (.ref (He.ga K x)) (.type "ValueError") = some true) :
    FnG P w K mg base CX0 4 f fd ["_law_made", "_law_value_here"] (spL ts (prMR K)) := by
  refine fn_ok Fd sc_made (fun vs F l R RE h => ?_) fun cdv A outer s H E hr vs F l R RE hp => ?_
  · obtain ⟨p, y, us, d, rfl, _⟩ := h
    rfl
  · obtain ⟨p, y, us, d, rfl, hl, hM, hD, hok, q⟩ := hp
    have nd : Nd _ := sc_made.nd
    have hlen : us.length = 12 := hM.len
    have un := hr.r.un
    refine bx_cons ?_
    walk_at "forenum"
    repeat walk_at "tlo"
    refine ⟨p, us, fun n σ' F' l' => F' = F ∧ l' = l ∧ ∃ t1 t2 : Option V, σ' = [some (.ref p), some y, t1, t2, none], rfl, ⟨rfl, rfl, none, none, rfl⟩, fun n σ' F' l' _ h => ?_, ?_, ?_⟩
    · obtain ⟨rfl, rfl, _⟩ := h
      exact hl
    · rintro n z T σ' F' l' hz ⟨rfl, rfl, t1, t2, rfl⟩
      obtain ⟨x, a, hx, rfl, hO⟩ := hM.get hz
      have hxm : x ∈ errs := List.mem_of_getElem? hx
      refine bx_cons ?_
      repeat walk_at "tlo"
      refine ⟨a, He.ga K x, fun y => decide (x = y), rfl, ⟨(hX x hxm).1, .inl ⟨"value", y, hO.mono fun q hq => by walk_at "sup"⟩⟩, fun y hy => hk x hxm y hy, fun p1 => ?_⟩
      with_reducible refine' ex_lc_range1 (i := 4) (own := [("_law_place", 4)]) ?hc ?hN ?hi ?ok ?hx2 ?hv ?hg ?hm ?hse ?hs ?_
      case hc => rfl
      case hN => assumption
      case hi => rfl
      case ok => exact blkOk_by (by kernel_rfl)
      case hx2 => rfl
      case hv => exact List.Mem.head _
      case hg => rfl
      case hm => assumption
      case hse => rfl
      case hs => exact fun _ => rfl
      repeat walk_at "tlo"
      refine ⟨12, fun j F1 l1 acc => F1 = F' ∧ l1 = (p1, HO.lst (errs.map fun y => V.bl (decide (x = y)))) :: (T, .tup [.int n, .ref a]) :: l' ∧ acc = (List.range j).map fun (k : Nat) => V.bl (decide ((k : Int) = n)), rfl, by decide, by decide, ?_⟩
      refine ⟨szN (by decide), ⟨rfl, rfl, rfl⟩, ?_, ?_⟩
      · rintro j F1 l1 acc D Y hY hj ⟨rfl, rfl, rfl⟩
        refine ei_nil ⟨fun _ Y hY => ?_, fun h => nomatch h⟩
        obtain ⟨s2, H2, C, cl, fp, rfl⟩ := hY.ex
        repeat walk_at "tlo"
        refine ⟨_, _, Ent.rfl, rfl, rfl, ?_⟩
        rw [List.range_succ, List.map_append]
        simp
      · rintro D F1 l1 acc ⟨rfl, rfl, rfl⟩
        have hn : n < 12 := by
          have := (List.getElem?_eq_some_iff.mp hz).1
          omega
        obtain ⟨k1, k2, k3⟩ := sorts_key n hn x hx
        have e1 : (errs.map fun y => V.bl (decide (x = y))) = (errs.map fun y => decide (x = y)).map V.bl := by rw [List.map_map]; rfl
        have e2 : ((List.range (12 : Int).toNat).map fun (k : Nat) => V.bl (decide ((k : Int) = n))) = (errs.map fun y => decide (x = y)).map V.bl := by
          rw [k1, List.map_map]
          rfl
        rw [e1, e2]
        refine og_neD (d := .list ((errs.map fun y => decide (x = y)).map .bool)) (e := .list ((errs.map fun y => decide (x = y)).map .bool)) ?_ ?_ ?_ k2 k2 ?_
        · show (A.deeper _).units + 64 < cLine
          omega
        · exact dt_lst (.inr (by walk_at "led")) dta_bls
        · exact dt_lst (.inr (by walk_at "led")) dta_bls
        · rw [k3]
          refine ⟨_, rfl, fun _ => ?_, fun h => nomatch h⟩
          repeat walk_at "tlo"
          refine ex_field rfl ?_
          repeat walk_at "tlo"
          refine ⟨a, He.ga K x, y, rfl, (hX x hxm).2, hO.mono fun q hq => by walk_at "sup", ?_⟩
          repeat walk_at "tlo"
          refine cg_reprD hr (hD.mono Mono.rfl fun q hq => by walk_at "sup") hok ?_
          repeat walk_at "tlo"
          refine cg_reprD hr (hD.mono Mono.rfl fun q hq => by walk_at "sup") hok ?_
          refine og_ne rfl ?_
          have e3 : (!decide (V.str d.shown = V.str d.shown)) = false := by rw [decide_eq_true rfl]; rfl
          rw [e3]
          refine ⟨_, rfl, fun h => (nomatch h), fun _ => ?_⟩
          repeat walk_at "tlo"
          refine ex_globC rfl hTg (by decide) ?_
          repeat walk_at "tlo"
          refine cg_isX ⟨(hX x hxm).1, .inl ⟨"value", y, hO.mono fun q hq => by walk_at "sup"⟩⟩ (hT x hxm) ?_
          refine ⟨true, tru_bl, fun _ => ?_, fun h => nomatch h⟩
          repeat walk_at "tlo"
          refine ex_ty (D := "ValueError") rfl m5 (by decide +kernel) (by decide) (by decide) ?_
          repeat walk_at "tlo"
          refine cg_isY ⟨(hX x hxm).1, .inl ⟨"value", y, hO.mono fun q hq => by walk_at "sup"⟩⟩ (hV x hxm) ?_
          refine ⟨true, tru_bl, fun h => (nomatch h), fun _ => ?_⟩
          repeat walk_at "tlo"
          refine ⟨_, _, ent_sub (by repeat (first | exact Sub.rfl | refine Sub.skip ?_)), rfl, rfl, _, _, rfl⟩
    · rintro σ' F' l' ⟨rfl, rfl, t1, t2, rfl⟩
      repeat walk_at "tlo"
      refine cg_len_seq (.inl hl) ?_
      repeat walk_at "tlo"
      rw [hlen]
      exact Up.of q
end

abbrev s_law : Stmt := top 25
theorem sc_law : FnScope ["_law_script", "_law_value_here", "_law_thing", "_law_made", "_law_first", "_law_error"] ["_law_script"] (defScope s_law) := ⟨rfl, rfl, rfl, by decide +kernel, rfl, by decide +kernel, by decide +kernel⟩
section
variable {P : Program} {w : World} {K : PySem.W.Frag} {mg : Str → Option Value} {base : Heap} {ts : Ts} {f f1 f2 f3 f4 f5 f6 f7 : Addr} {fd fd1 fd2 fd3 fd4 fd5 fd6 fd7 : FuncData}
def prLaw (K : PySem.W.Frag) : PrT := fun vs F l R _ => ∃ (p : Addr) (ns : List Int), vs = [.ref p] ∧ l = [] ∧ IsL K F [] p (ns.map V.int) ∧ ∀ F' l', R (.bl true) F' l'
theorem ok_law (Fd : FnP K "law" s_law f fd) (C1 : Callee P w K mg base ts CX0 2 "_law_generator" ["_law_script", "_law_index"] (prGen K) f1 fd1) (C2 : Callee P w K mg base ts CX0 3 "_law_value" ["_law_generator_here"] (prValue K) f2 fd2)
    (C3 : Callee P w K mg base ts CX0 4 "_law_made_right" ["_law_made", "_law_value_here"] (prMR K) f3 fd3) (C4 : Callee P w K mg base ts CX0 3 "_law_bare" [] (prBare K) f4 fd4) (C5 : Callee P w K mg base ts CX0 3 "_law_placed" ["_law_value_here"] (prPlaced K) f5 fd5)
    (C6 : Callee P w K mg base ts CX0 3 "_law_named" ["_law_value_here"] (prNamed K) f6 fd6) (C7 : Callee P w K mg base ts CX0 1 "_law_sorts" ["_law_error"] (prSorts K) f7 fd7)
    (m4 : mg "isinstance" = none) (m5 : mg "ValueError" = none) (hTg : mg "TurnError" = some (.ref (He.ga K "TurnError"))) (hTx : PySem.W.excIn K (He.ga K "TurnError") He.veBase "ValueError.__new__" = true) (hTk : PySem.W.keepIn K (.ref (He.ga K "TurnError")) = true) (hTe : ExcC K (He.ga K "TurnError"))
    (hTV : PySem.W.kitOne K (.ref (He.ga K "TurnError")) (.type "ValueError") = some true) (hTs : ∀ x ∈ errs, PySem.W.kitOne K (.ref (He.ga K "TurnError")) (.ref (He.ga K x)) = some false) (hX : ∀ x ∈ errs, ExcC K (He.ga K x) ∧ XfC K (He.ga K x)) :
    FnG P w K mg base CX0 5 f fd ["_law_script"] (spL ts (prLaw K)) := by
  refine fn_ok Fd sc_law (fun vs F l R RE h => ?_) fun cdv A outer s H E hr vs F l R RE hp => ?_
  · obtain ⟨p, ns, rfl, _⟩ := h
    rfl
  · obtain ⟨p, ns, rfl, rfl, hl, q⟩ := hp
    have nd : Nd _ := sc_law.nd
    have un := hr.r.un
    refine bx_cons ?_
    repeat walk_at "tlo"
    refine ⟨p, 0, ns, rfl, by decide, hl, fun g a s G => ?_⟩
    repeat walk_at "tlo"
    refine ⟨g, a, s, _, _, rfl, rfl, G, by decide, fun v d l0 hD hok => ?_⟩
    repeat walk_at "tlo"
    refine ⟨szl rfl, fun th => ?_⟩
    with_reducible refine' bx_know ?_
    rintro ⟨H0, S0⟩
    have nd0 := S0.nd
    repeat walk_at "tlo"
    refine ⟨rfl, fun pb l1 us hs hM => ?_⟩
    repeat walk_at "tlo"
    refine ⟨pb, .non, us, .none, rfl, .inr (.head _), hM.mono (fun q hq => .tail _ hq), dt_non, dok_non, ?_⟩
    refine ⟨true, tru_bl, fun _ => ?_, fun h => nomatch h⟩
    with_reducible refine' ew_ent (ent_mem (l' := (th, HO.lst [V.int 5]) :: l0) (fun q hq => List.Mem.tail _ (hs q hq)) nd0) ?_
    repeat walk_at "tlo"
    refine ⟨v, rfl, fun pp l2 us2 hs2 hM2 => ?_⟩
    repeat walk_at "tlo"
    refine ⟨pp, v, us2, d, rfl, .inr (.head _), hM2.mono (fun q hq => .tail _ hq), hD.mono Mono.rfl (fun q hq => .tail _ (hs2 q (.tail _ hq))), hok, ?_⟩
    refine ⟨true, tru_bl, fun _ => ?_, fun h => nomatch h⟩
    with_reducible refine' ew_ent (ent_mem (l' := (th, HO.lst [V.int 5]) :: l0) (fun q hq => List.Mem.tail _ (hs2 q hq)) nd0) ?_
    repeat walk_at "tlo"
    refine ⟨v, rfl, fun pn l3 us3 hs3 hM3 => ?_⟩
    repeat walk_at "tlo"
    refine ⟨pn, v, us3, d, rfl, .inr (.head _), hM3.mono (fun q hq => .tail _ hq), hD.mono Mono.rfl (fun q hq => .tail _ (hs3 q (.tail _ hq))), hok, ?_⟩
    refine ⟨true, tru_bl, fun h => (nomatch h), fun _ => ?_⟩
    with_reducible refine' bx_ent (ent_mem (l' := (th, HO.lst [V.int 5]) :: l0) (fun q hq => List.Mem.tail _ (hs3 q hq)) nd0) ?_
    repeat walk_at "tlo"
    refine ⟨_, rfl, fun p1 l4 us4 hs4 hM4 => ?_⟩
    repeat walk_at "tlo"
    refine ⟨_, rfl, fun p2 l5 us5 hs5 hM5 => ?_⟩
    have h1 : (p1, HO.lst us4) ∈ l5 := hs5 _ (.head _)
    have h2 : (th, HO.lst [V.int 5]) ∈ l5 := hs5 _ (.tail _ (hs4 _ (.head _)))
    have z4 := hM4.len
    have z5 := hM5.len
    have zz : errs.length = 12 := rfl
    refine og_add_lst (.inr (.tail _ h1)) (.inr (.head _)) (szN (by omega)) fun p3 => ?_
    repeat walk_at "tlo"
    obtain ⟨i, hi⟩ := List.getElem?_of_mem h2
    have hi3 : ((p3, HO.lst (us4 ++ us5)) :: (p2, HO.lst us5) :: l5)[i + 2]? = some (th, HO.lst [V.int 5]) := hi
    with_reducible refine' ex_bm PySem.F.plainAttrs_list PySem.F.slot_list_append PySem.F.type_list_append ?hbase ?hfew ?hline ?hst ?hplain ?_
    case hbase => rfl
    case hfew => rfl
    case hline => rfl
    case hst => rfl
    case hplain => rfl
    repeat walk_at "tlo"
    refine ⟨ty_list (xs := [V.int 5]) (.inr (List.mem_of_getElem? hi3)), ?_⟩
    repeat walk_at "tlo"
    refine mg_append (i + 2) hi3 (by rw [sizeLine_eq]; decide) ?_
    have hset : ∀ q ∈ l5, (∀ xs, q.2 ≠ HO.lst xs) → q ∈ ((p3, HO.lst (us4 ++ us5)) :: (p2, HO.lst us5) :: l5).set (i + 2) (th, HO.lst ([V.int 5] ++ [V.int 7])) := fun q hq hne => mem_set_ne hi3 (.tail _ (.tail _ hq)) fun z => hne [V.int 5] (congrArg (·.2) z)
    have hN4 := hM4.mono2 (l' := ((p3, HO.lst (us4 ++ us5)) :: (p2, HO.lst us5) :: l5).set (i + 2) (th, HO.lst ([V.int 5] ++ [V.int 7]))) fun q hq hne => hset q (hs5 _ (.tail _ hq)) hne
    have hN5 := hM5.mono2 hset
    have hth : (th, HO.lst [V.int 5, V.int 7]) ∈ ((p3, HO.lst (us4 ++ us5)) :: (p2, HO.lst us5) :: l5).set (i + 2) (th, HO.lst ([V.int 5] ++ [V.int 7])) := List.mem_of_getElem? (List.getElem?_set_self (List.getElem?_eq_some_iff.mp hi3).1)
    have hp3 : (p3, HO.lst (us4 ++ us5)) ∈ ((p3, HO.lst (us4 ++ us5)) :: (p2, HO.lst us5) :: l5).set (i + 2) (th, HO.lst ([V.int 5] ++ [V.int 7])) := .head _
    generalize ((p3, HO.lst (us4 ++ us5)) :: (p2, HO.lst us5) :: l5).set (i + 2) (th, HO.lst ([V.int 5] ++ [V.int 7])) = L at hN4 hN5 hth hp3 ⊢
    have hitem : ∀ (j : Nat) (z : V), (us4 ++ us5)[j]? = some z → ∃ x a, x ∈ errs ∧ z = .ref a ∧ XO K F L a (He.ga K x) "value" (.ref th) := by
      intro j z hz
      by_cases hj : j < us4.length
      · rw [List.getElem?_append_left hj] at hz
        obtain ⟨x, a, e1, e2, e3⟩ := hN4.get hz
        exact ⟨x, a, List.mem_of_getElem? e1, e2, e3⟩
      · rw [List.getElem?_append_right (by omega)] at hz
        obtain ⟨x, a, e1, e2, e3⟩ := hN5.get hz
        exact ⟨x, a, List.mem_of_getElem? e1, e2, e3⟩
    repeat walk_at "tlo"
    with_reducible refine' ex_lc_list (i := 5) (own := [("_law_error", 5)]) ?hc ?hN ?hi ?ok ?hx ?hx2 ?hv ?hs ?_
    case hc => rfl
    case hN => assumption
    case hi => rfl
    case ok => exact blkOk_by (by kernel_rfl)
    case hx => rfl
    case hx2 => rfl
    case hv => exact List.Mem.head _
    case hs => exact fun _ => rfl
    repeat walk_at "tlo"
    refine ⟨p3, us4 ++ us5, fun j F1 l1 acc => F1 = F ∧ l1 = L ∧ acc = [], rfl, szN (by rw [List.length_append]; omega), ⟨rfl, rfl, rfl⟩, ?_, ?_, ?_⟩
    · rintro j F1 l1 acc hj ⟨rfl, rfl, rfl⟩
      exact .inr hp3
    · rintro j z F1 l1 acc D Y hY hz ⟨rfl, rfl, rfl⟩
      obtain ⟨x, a, hx, rfl, hO⟩ := hitem j z hz
      obtain ⟨s2, H2, C, cl, fp, rfl⟩ := hY.ex
      with_reducible refine' ei_one ?_
      repeat walk_at "tlo"
      refine ex_field rfl ?_
      repeat walk_at "tlo"
      refine ⟨a, He.ga K x, .ref th, rfl, (hX x hx).2, hO.mono fun q hq => List.Mem.tail _ hq, ?_⟩
      repeat walk_at "tlo"
      refine ⟨szl rfl, fun t5 => ?_⟩
      refine og_neD (d := .list [.int 5, .int 7]) (e := .list [.int 5, .int 7]) ?_ ?_ ?_ (by decide +kernel) (by decide +kernel) ?_
      · show (A.deeper _).units + 64 < cLine
        omega
      · exact dt_lst (.inr (.tail _ (.tail _ hth))) (dta_cons dt_int (dta_cons dt_int dta_nil))
      · exact dt_lst (.inr (.head _)) (dta_cons dt_int (dta_cons dt_int dta_nil))
      · have e : (!PyData.eqv (.list [.int 5, .int 7]) (.list [.int 5, .int 7])) = false := by decide +kernel
        rw [e]
        exact ⟨false, rfl, fun h => (nomatch h), fun _ => ⟨_, _, ent_sub (Sub.skip Sub.rfl), rfl, rfl, rfl⟩⟩
    · rintro D F1 l1 acc ⟨rfl, rfl, rfl⟩
      repeat walk_at "tlo"
      refine ⟨szl rfl, fun t5 => ?_⟩
      refine og_neD (d := .list []) (e := .list []) ?_ ?_ ?_ (by decide +kernel) (by decide +kernel) ?_
      · show (A.deeper _).units + 64 < cLine
        omega
      · exact dt_lst (.inr (.tail _ (.head _))) dta_nil
      · exact dt_lst (.inr (.head _)) dta_nil
      · have e : (!PyData.eqv (.list []) (.list [])) = false := by decide +kernel
        rw [e]
        refine ⟨false, rfl, fun h => (nomatch h), fun _ => ?_⟩
        repeat walk_at "tlo"
        refine ex_exc0 hTx hTg hTk rfl (by decide) fun ft => ?_
        repeat walk_at "tlo"
        refine ex_ty (D := "ValueError") rfl m5 (by decide +kernel) (by decide) (by decide) ?_
        repeat walk_at "tlo"
        refine cg_isY ⟨hTe, .inr (.inr (.head _))⟩ hTV ?_
        refine ⟨true, tru_bl, fun _ => ?_, fun h => nomatch h⟩
        repeat walk_at "tlo"
        refine ⟨ft, _, fun _ => false, rfl, ⟨hTe, .inr (.inr (.head _))⟩, hTs, fun ps => ?_⟩
        refine og_notInD (d := .bool true) (ds := errs.map fun _ => .bool false) (b := true) ?_ dt_bl (dt_lst (.inr (.head _)) ?_) (by decide +kernel) (by decide +kernel) ?_
        · show (A.deeper _).units + 65 < cLine
          omega
        · exact dta_cons dt_bl (dta_cons dt_bl (dta_cons dt_bl (dta_cons dt_bl (dta_cons dt_bl (dta_cons dt_bl (dta_cons dt_bl (dta_cons dt_bl (dta_cons dt_bl (dta_cons dt_bl (dta_cons dt_bl (dta_cons dt_bl dta_nil)))))))))))
        · have e2 : (!(errs.map fun _ => PyData.bool false).any fun e => PyData.eqv e (.bool true)) = true := by decide +kernel
          rw [e2]
          exact Up.of (q _ _)
end
end K64

namespace K64
open PySem PySem.Spec PyProof.Rows L2 TL
/-! ### an error's __init__ -/
theorem ok_ini {P : Program} {w : World} {K : PySem.W.Frag} {mg : Str → Option Value} {base : Heap} {qual : Str} {params : Arguments} {body : List Stmt} {scope : Scope} {f : Addr} {fd : FuncData} {p1 p2 p3 p4 : Pos}
    (Fd : FunD K "__init__" qual params body scope [.non] [] f fd) (hb : body = [.Assign [.Attribute (.Name "self" p1) "value" p2] (.Name "value" p3) p4]) (S : FnScope ["self", "value"] ["self", "value"] scope)
    (v1 : scope.names.lookup ("self" : Str) = some .local) (v2 : scope.names.lookup ("value" : Str) = some .local) (hs : ∀ env, swapsWith (.Name "value" p3) (some (.Attribute (.Name "self" p1) "value" p2)) p4.line env = pure false) :
    FnOk P w K mg base CX0 1 f fd ["self", "value"] (spIni K "value") := by
  subst hb
  refine Fd.ok S (fun vs H Q E h => ?_) fun cdv A outer s H vs Q E hr h => ⟨_, PSs.nox (pss_one (ps_ost (pe_var (i := 0) rfl (.inl v1)) (pe_var (i := 1) rfl (.inl v2)) (hs _))), ?_⟩
  · obtain ⟨a, y, C, rfl, _⟩ := h
    rfl
  · obtain ⟨a, y, C, rfl, T, no, ea, q⟩ := h
    exact ⟨y, rfl, _, rfl, a, C, rfl, T, no, .inl ⟨ea, fun dx h1 h2 => q dx h1 h2⟩⟩
def iniS (i : Nat) : Stmt := inClass (top i) 0
def iniArgs : Arguments := defArgs (iniS 2)
structure IniOk (i : Nat) : Prop where
  b : ∃ p1 p2 p3 p4, defBody (iniS i) = [.Assign [.Attribute (.Name "self" p1) "value" p2] (.Name "value" p3) p4]
  s : FnScope ["self", "value"] ["self", "value"] (defScope (iniS i))
  v1 : (defScope (iniS i)).names.lookup ("self" : Str) = some .local
  v2 : (defScope (iniS i)).names.lookup ("value" : Str) = some .local
  b0 : ∀ (qual : Str) (T : Addr) (kV doc pm : Value) (an : Option Addr) (cdv ct u d : Value), ∃ k, bindArgs (PySem.W.fnOf "__init__" qual (defArgs (iniS i)) (defBody (iniS i)) (defScope (iniS i)) (.ref T) kV doc pm an cdv ct) ⟨[u], []⟩ = seqItems? (.ref T) >>= k ∧ k (some #[d]) = pure [(("self" : Str), u), (("value" : Str), d)]
  b1 : ∀ (qual : Str) (T : Addr) (kV doc pm : Value) (an : Option Addr) (cdv ct u y d : Value), ∃ k, bindArgs (PySem.W.fnOf "__init__" qual (defArgs (iniS i)) (defBody (iniS i)) (defScope (iniS i)) (.ref T) kV doc pm an cdv ct) ⟨[u, y], []⟩ = seqItems? (.ref T) >>= k ∧ k (some #[d]) = pure [(("self" : Str), u), (("value" : Str), y)]
  bk : ∀ (qual : Str) (T : Addr) (kV doc pm : Value) (an : Option Addr) (cdv ct u y d : Value), ∃ k, bindArgs (PySem.W.fnOf "__init__" qual (defArgs (iniS i)) (defBody (iniS i)) (defScope (iniS i)) (.ref T) kV doc pm an cdv ct) ⟨[u], [("value", y)]⟩ = seqItems? (.ref T) >>= k ∧ k (some #[d]) = pure [(("self" : Str), u), (("value" : Str), y)]
theorem ini2 : IniOk 2 := ⟨⟨_, _, _, _, rfl⟩, ⟨rfl, rfl, rfl, by decide +kernel, rfl, by decide +kernel, by decide +kernel⟩, rfl, rfl, fun _ _ _ _ _ _ _ _ _ _ => ⟨_, rfl, rfl⟩, fun _ _ _ _ _ _ _ _ _ _ _ => ⟨_, rfl, rfl⟩, fun _ _ _ _ _ _ _ _ _ _ _ => ⟨_, rfl, rfl⟩⟩
theorem oxe {P : Program} {w : World} {K : PySem.W.Frag} {mg : Str → Option Value} {base : Heap} {i : Nat} {x qual : Str} {fd : FuncData} (Io : IniOk i) (O : OxF K x "value") (hm : mg x = some (.ref (He.ga K x)))
    (Fd : FunD K "__init__" qual (defArgs (iniS i)) (defBody (iniS i)) (defScope (iniS i)) [.non] [] (He.ma K (He.ga K x) "__init__") fd) : OxE P w K mg base x := by
  obtain ⟨p1, p2, p3, p4, hb⟩ := Io.b
  have ok := ok_ini (P := P) (w := w) (mg := mg) (base := base) Fd hb Io.s Io.v1 Io.v2 fun _ => rfl
  have hd : ([V.non] : List V) ≠ [] := fun z => nomatch z
  have k0 := FunD.kbindsD (ps := ["self", "value"]) Fd 1 [] (fun us its ws => us ++ its) hd (fun r1 r2 r3 => r1.append r2) fun T kV doc pm an cdv ct us its ws l1 l2 l3 => match us, its, ws, l1, l2, l3 with
    | [u], [d], [], _, _, _ => Io.b0 qual T kV doc pm an cdv ct u d
  have k1 := FunD.kbindsD (ps := ["self", "value"]) Fd 2 [] (fun us its ws => us) hd (fun r1 r2 r3 => r1) fun T kV doc pm an cdv ct us its ws l1 l2 l3 => match us, its, ws, l1, l2, l3 with
    | [u, y], [d], [], _, _, _ => Io.b1 qual T kV doc pm an cdv ct u y d
  have k2 := FunD.kbindsD (ps := ["self", "value"]) Fd 1 ["value"] (fun us its ws => us ++ ws) hd (fun r1 r2 r3 => r1.append r3) fun T kV doc pm an cdv ct us its ws l1 l2 l3 => match us, its, ws, l1, l2, l3 with
    | [u], [d], [y], _, _, _ => Io.bk qual T kV doc pm an cdv ct u y d
  obtain ⟨its, k1⟩ := k1
  obtain ⟨its2, k2⟩ := k2
  exact ⟨fd, ⟨O.cl, hm, O.no, O.ini, O.tI, ok, k0, k1, k2⟩⟩
theorem ini3 : IniOk 3 := ⟨⟨_, _, _, _, rfl⟩, ⟨rfl, rfl, rfl, by decide +kernel, rfl, by decide +kernel, by decide +kernel⟩, rfl, rfl, fun _ _ _ _ _ _ _ _ _ _ => ⟨_, rfl, rfl⟩, fun _ _ _ _ _ _ _ _ _ _ _ => ⟨_, rfl, rfl⟩, fun _ _ _ _ _ _ _ _ _ _ _ => ⟨_, rfl, rfl⟩⟩
theorem ini4 : IniOk 4 := ⟨⟨_, _, _, _, rfl⟩, ⟨rfl, rfl, rfl, by decide +kernel, rfl, by decide +kernel, by decide +kernel⟩, rfl, rfl, fun _ _ _ _ _ _ _ _ _ _ => ⟨_, rfl, rfl⟩, fun _ _ _ _ _ _ _ _ _ _ _ => ⟨_, rfl, rfl⟩, fun _ _ _ _ _ _ _ _ _ _ _ => ⟨_, rfl, rfl⟩⟩
theorem ini5 : IniOk 5 := ⟨⟨_, _, _, _, rfl⟩, ⟨rfl, rfl, rfl, by decide +kernel, rfl, by decide +kernel, by decide +kernel⟩, rfl, rfl, fun _ _ _ _ _ _ _ _ _ _ => ⟨_, rfl, rfl⟩, fun _ _ _ _ _ _ _ _ _ _ _ => ⟨_, rfl, rfl⟩, fun _ _ _ _ _ _ _ _ _ _ _ => ⟨_, rfl, rfl⟩⟩
theorem ini6 : IniOk 6 := ⟨⟨_, _, _, _, rfl⟩, ⟨rfl, rfl, rfl, by decide +kernel, rfl, by decide +kernel, by decide +kernel⟩, rfl, rfl, fun _ _ _ _ _ _ _ _ _ _ => ⟨_, rfl, rfl⟩, fun _ _ _ _ _ _ _ _ _ _ _ => ⟨_, rfl, rfl⟩, fun _ _ _ _ _ _ _ _ _ _ _ => ⟨_, rfl, rfl⟩⟩
theorem ini7 : IniOk 7 := ⟨⟨_, _, _, _, rfl⟩, ⟨rfl, rfl, rfl, by decide +kernel, rfl, by decide +kernel, by decide +kernel⟩, rfl, rfl, fun _ _ _ _ _ _ _ _ _ _ => ⟨_, rfl, rfl⟩, fun _ _ _ _ _ _ _ _ _ _ _ => ⟨_, rfl, rfl⟩, fun _ _ _ _ _ _ _ _ _ _ _ => ⟨_, rfl, rfl⟩⟩
theorem ini8 : IniOk 8 := ⟨⟨_, _, _, _, rfl⟩, ⟨rfl, rfl, rfl, by decide +kernel, rfl, by decide +kernel, by decide +kernel⟩, rfl, rfl, fun _ _ _ _ _ _ _ _ _ _ => ⟨_, rfl, rfl⟩, fun _ _ _ _ _ _ _ _ _ _ _ => ⟨_, rfl, rfl⟩, fun _ _ _ _ _ _ _ _ _ _ _ => ⟨_, rfl, rfl⟩⟩
theorem ini9 : IniOk 9 := ⟨⟨_, _, _, _, rfl⟩, ⟨rfl, rfl, rfl, by decide +kernel, rfl, by decide +kernel, by decide +kernel⟩, rfl, rfl, fun _ _ _ _ _ _ _ _ _ _ => ⟨_, rfl, rfl⟩, fun _ _ _ _ _ _ _ _ _ _ _ => ⟨_, rfl, rfl⟩, fun _ _ _ _ _ _ _ _ _ _ _ => ⟨_, rfl, rfl⟩⟩
theorem ini10 : IniOk 10 := ⟨⟨_, _, _, _, rfl⟩, ⟨rfl, rfl, rfl, by decide +kernel, rfl, by decide +kernel, by decide +kernel⟩, rfl, rfl, fun _ _ _ _ _ _ _ _ _ _ => ⟨_, rfl, rfl⟩, fun _ _ _ _ _ _ _ _ _ _ _ => ⟨_, rfl, rfl⟩, fun _ _ _ _ _ _ _ _ _ _ _ => ⟨_, rfl, rfl⟩⟩
theorem ini11 : IniOk 11 := ⟨⟨_, _, _, _, rfl⟩, ⟨rfl, rfl, rfl, by decide +kernel, rfl, by decide +kernel, by decide +kernel⟩, rfl, rfl, fun _ _ _ _ _ _ _ _ _ _ => ⟨_, rfl, rfl⟩, fun _ _ _ _ _ _ _ _ _ _ _ => ⟨_, rfl, rfl⟩, fun _ _ _ _ _ _ _ _ _ _ _ => ⟨_, rfl, rfl⟩⟩
theorem ini12 : IniOk 12 := ⟨⟨_, _, _, _, rfl⟩, ⟨rfl, rfl, rfl, by decide +kernel, rfl, by decide +kernel, by decide +kernel⟩, rfl, rfl, fun _ _ _ _ _ _ _ _ _ _ => ⟨_, rfl, rfl⟩, fun _ _ _ _ _ _ _ _ _ _ _ => ⟨_, rfl, rfl⟩, fun _ _ _ _ _ _ _ _ _ _ _ => ⟨_, rfl, rfl⟩⟩
theorem ini13 : IniOk 13 := ⟨⟨_, _, _, _, rfl⟩, ⟨rfl, rfl, rfl, by decide +kernel, rfl, by decide +kernel, by decide +kernel⟩, rfl, rfl, fun _ _ _ _ _ _ _ _ _ _ => ⟨_, rfl, rfl⟩, fun _ _ _ _ _ _ _ _ _ _ _ => ⟨_, rfl, rfl⟩, fun _ _ _ _ _ _ _ _ _ _ _ => ⟨_, rfl, rfl⟩⟩
/-! ### the head -/
def laws : List Str := ["_law_hash", "_law_random", "_law_cell", "_law_generator", "_law_value", "_law_sorts", "_law_bare", "_law_placed", "_law_named", "_law_made_right", "law"]
def frees : List Str := ["int", "range", "len", "sum", "max", "enumerate", "repr", "isinstance", "ValueError"]
def dIni (i : Nat) (x q : Str) : He.DefD := ⟨(x, some "__init__"), "__init__", q, defArgs (iniS i), defBody (iniS i), defScope (iniS i), [.non], []⟩
def dLaw (i : Nat) (x : Str) : He.DefD := ⟨(x, none), x, x, defArgs (top i), defBody (top i), defScope (top i), [], []⟩
def fn : List He.DefD := [dLaw 15 "_law_hash", dLaw 16 "_law_random", dLaw 17 "_law_cell", dLaw 18 "_law_generator", dLaw 19 "_law_value", dLaw 20 "_law_sorts", dLaw 21 "_law_bare", dLaw 22 "_law_placed", dLaw 23 "_law_named", dLaw 24 "_law_made_right", dLaw 25 "law",
  dIni 2 "InvalidOrder" "InvalidOrder.__init__", dIni 3 "InvalidRow" "InvalidRow.__init__", dIni 4 "InvalidNumber" "InvalidNumber.__init__", dIni 5 "InvalidDeed" "InvalidDeed.__init__", dIni 6 "InvalidWord" "InvalidWord.__init__", dIni 7 "InvalidSet" "InvalidSet.__init__", dIni 8 "InvalidTable" "InvalidTable.__init__", dIni 9 "InvalidLengths" "InvalidLengths.__init__", dIni 10 "InvalidCell" "InvalidCell.__init__", dIni 11 "InvalidRun" "InvalidRun.__init__", dIni 12 "Unlike" "Unlike.__init__", dIni 13 "TooMany" "TooMany.__init__"]
def fa : List He.Fa := laws.map .glo ++ errs.map .glo ++ [.glo "TurnError"] ++ frees.map .free
def ex (K : PySem.W.Frag) : Bool := (errs.all fun x => oxB K x "value") && (kindsB K errs && (ofB K (.ref (He.ga K "TurnError")) true errs && (ofB K (.type "ValueError") true errs && (PySem.W.excIn K (He.ga K "TurnError") He.veBase "ValueError.__new__" && (PySem.W.keepIn K (.ref (He.ga K "TurnError")) && (ecB K (He.ga K "TurnError") &&
  (ofB K (.type "ValueError") true ["TurnError"] && errs.all fun x => decide (PySem.W.kitOne K (.ref (He.ga K "TurnError")) (.ref (He.ga K x)) = some false))))))))
abbrev Rw : PySem.W.OpenRow := PySem.W.OpenLaw.row PySem.Challenge.rw_turnlines_k64_errors_made
abbrev hk : PySem.W.Hook := He.hookX 6 fa fn [] [] ex
def ob (s : PySem.W.SharedT) : He.AlX := He.obsX 6 fa fn [] [] ex (HandSHeadRun.getT s)
theorem ob_eq (s : PySem.W.SharedT) : ob s = hk.obs s.abs := He.obsX_eq (HandSHeadRun.getT_eq s)
def loose : List Str := ["TurnError", "InvalidOrder", "InvalidRow", "InvalidNumber", "InvalidDeed", "InvalidWord", "InvalidSet", "InvalidTable", "InvalidLengths", "InvalidCell", "InvalidRun", "Unlike", "TooMany", "_law_hash", "_law_random", "_law_cell", "_law_generator", "_law_value", "_law_sorts", "_law_bare", "_law_placed", "_law_named", "_law_made_right"]
theorem run (w : World) : HandSHeadRun.RunEq Rw (PySem.W.view Rw.prog [25]) hk ob 6000 loose w := by
  intro os
  kernel_rfl
theorem callee {P : Program} {w : World} {K : PySem.W.Frag} {mg : Str → Option Value} {base : Heap} {ts : Ts} {k i : Nat} {x : Str} {ps : List Str} {Pr : PrT} {fd : FuncData} (Fd : FnP K x (top i) (He.ga K x) fd) (hm : mg x = some (.ref (He.ga K x))) (ok : FnG P w K mg base CX0 k (He.ga K x) fd ps (spL ts Pr))
    (hb : ∀ (kV doc pm : Value) (an : Option Addr) (cdv ct : Value) (us ws : List Value), us.length = ps.length → ws.length = 0 → bindArgs (PySem.W.fnOf x x (defArgs (top i)) (defBody (top i)) (defScope (top i)) .none kV doc pm an cdv ct) ⟨us, ([] : List Str).zip ws⟩ = pure (ps.zip us)) :
    Callee P w K mg base ts CX0 k x ps Pr (He.ga K x) fd :=
  ⟨ok, hm, Fd.kp, kbnN (K := K) ps.length [] (fun us _ => us) Fd (fun r _ => r) hb⟩
theorem facts {P : Program} {w : World} {K : PySem.W.Frag} {h : Heap} {mg : Str → Option Value} {f : Addr} (X : K.In h) (G : h.Ns mainGlobals mg) (hfa : mg ("law" : Str) = some (.ref f)) (c : He.SaysX fa fn [] [] ex w h K) :
    ∃ fd : FuncData, (∀ (s : Shared) (v : Value), BindsTo s fd ⟨[v], []⟩ [("_law_script", v)]) ∧ ∀ base : Heap, K.In base → base.Ns mainGlobals mg → FnG P w K mg base CX0 5 f fd ["_law_script"] (spL [] (prLaw K)) := by
  have cd := c.t.d
  have gl : ∀ x ∈ laws, mg x = some (.ref (He.ga K x)) := fun x hx => He.glo_ok X G (cd.facts (List.mem_append_left _ (List.mem_append_left _ (List.mem_append_left _ (List.mem_map.mpr ⟨x, hx, rfl⟩)))))
  have hM : ∀ x ∈ errs, mg x = some (.ref (He.ga K x)) := fun x hx => He.glo_ok X G (cd.facts (List.mem_append_left _ (List.mem_append_left _ (List.mem_append_right _ (List.mem_map.mpr ⟨x, hx, rfl⟩)))))
  have hT : mg "TurnError" = some (.ref (He.ga K "TurnError")) := He.glo_ok X G (cd.facts (List.mem_append_left _ (List.mem_append_right _ (List.mem_singleton.mpr rfl))))
  have fr : ∀ x ∈ frees, mg x = none := fun x hx => He.free_ok X G (cd.facts (List.mem_append_right _ (List.mem_map.mpr ⟨x, hx, rfl⟩)))
  have mo := c.more
  unfold ex at mo
  simp only [Bool.and_eq_true] at mo
  obtain ⟨x1, x2, x3, x4, x5, x6, x7, x8, x9⟩ := mo
  have hO : ∀ x ∈ errs, OxF K x "value" := fun x hx => oxB_ok (List.all_eq_true.mp x1 x hx)
  obtain ⟨d15, F15⟩ := cd.def_ 0 (d := dLaw 15 "_law_hash") rfl
  replace F15 : FnP K "_law_hash" (top 15) (He.ga K "_law_hash") d15 := F15
  obtain ⟨d16, F16⟩ := cd.def_ 1 (d := dLaw 16 "_law_random") rfl
  replace F16 : FnP K "_law_random" (top 16) (He.ga K "_law_random") d16 := F16
  obtain ⟨d17, F17⟩ := cd.def_ 2 (d := dLaw 17 "_law_cell") rfl
  replace F17 : FnP K "_law_cell" (top 17) (He.ga K "_law_cell") d17 := F17
  obtain ⟨d18, F18⟩ := cd.def_ 3 (d := dLaw 18 "_law_generator") rfl
  replace F18 : FnP K "_law_generator" (top 18) (He.ga K "_law_generator") d18 := F18
  obtain ⟨d19, F19⟩ := cd.def_ 4 (d := dLaw 19 "_law_value") rfl
  replace F19 : FnP K "_law_value" (top 19) (He.ga K "_law_value") d19 := F19
  obtain ⟨d20, F20⟩ := cd.def_ 5 (d := dLaw 20 "_law_sorts") rfl
  replace F20 : FnP K "_law_sorts" (top 20) (He.ga K "_law_sorts") d20 := F20
  obtain ⟨d21, F21⟩ := cd.def_ 6 (d := dLaw 21 "_law_bare") rfl
  replace F21 : FnP K "_law_bare" (top 21) (He.ga K "_law_bare") d21 := F21
  obtain ⟨d22, F22⟩ := cd.def_ 7 (d := dLaw 22 "_law_placed") rfl
  replace F22 : FnP K "_law_placed" (top 22) (He.ga K "_law_placed") d22 := F22
  obtain ⟨d23, F23⟩ := cd.def_ 8 (d := dLaw 23 "_law_named") rfl
  replace F23 : FnP K "_law_named" (top 23) (He.ga K "_law_named") d23 := F23
  obtain ⟨d24, F24⟩ := cd.def_ 9 (d := dLaw 24 "_law_made_right") rfl
  replace F24 : FnP K "_law_made_right" (top 24) (He.ga K "_law_made_right") d24 := F24
  obtain ⟨d25, F25⟩ := cd.def_ 10 (d := dLaw 25 "law") rfl
  replace F25 : FnP K "law" (top 25) (He.ga K "law") d25 := F25
  obtain ⟨e0, I0⟩ := cd.def_ 11 (d := dIni 2 "InvalidOrder" "InvalidOrder.__init__") rfl
  obtain ⟨e1, I1⟩ := cd.def_ 12 (d := dIni 3 "InvalidRow" "InvalidRow.__init__") rfl
  obtain ⟨e2, I2⟩ := cd.def_ 13 (d := dIni 4 "InvalidNumber" "InvalidNumber.__init__") rfl
  obtain ⟨e3, I3⟩ := cd.def_ 14 (d := dIni 5 "InvalidDeed" "InvalidDeed.__init__") rfl
  obtain ⟨e4, I4⟩ := cd.def_ 15 (d := dIni 6 "InvalidWord" "InvalidWord.__init__") rfl
  obtain ⟨e5, I5⟩ := cd.def_ 16 (d := dIni 7 "InvalidSet" "InvalidSet.__init__") rfl
  obtain ⟨e6, I6⟩ := cd.def_ 17 (d := dIni 8 "InvalidTable" "InvalidTable.__init__") rfl
  obtain ⟨e7, I7⟩ := cd.def_ 18 (d := dIni 9 "InvalidLengths" "InvalidLengths.__init__") rfl
  obtain ⟨e8, I8⟩ := cd.def_ 19 (d := dIni 10 "InvalidCell" "InvalidCell.__init__") rfl
  obtain ⟨e9, I9⟩ := cd.def_ 20 (d := dIni 11 "InvalidRun" "InvalidRun.__init__") rfl
  obtain ⟨e10, I10⟩ := cd.def_ 21 (d := dIni 12 "Unlike" "Unlike.__init__") rfl
  obtain ⟨e11, I11⟩ := cd.def_ 22 (d := dIni 13 "TooMany" "TooMany.__init__") rfl
  have e := hfa.symm.trans (gl "law" (by decide +kernel))
  cases e
  refine ⟨d25, fun s v => FunD.bindsA (ps := ["_law_script"]) F25 (fun _ _ _ _ _ _ us hl => match us, hl with | [_], _ => rfl) s [v] rfl, fun base hb hg => ?_⟩
  have hE : ∀ x ∈ errs, OxE P w K mg base x := by
    intro x hx
    have q : ∀ x ∈ errs, mg x = some (.ref (He.ga K x)) := hM
    unfold errs at hx
    simp only [List.mem_cons, List.not_mem_nil, or_false] at hx
    rcases hx with rfl | rfl | rfl | rfl | rfl | rfl | rfl | rfl | rfl | rfl | rfl | rfl
    · exact oxe ini2 (hO _ (by decide +kernel)) (hM _ (by decide +kernel)) I0
    · exact oxe ini3 (hO _ (by decide +kernel)) (hM _ (by decide +kernel)) I1
    · exact oxe ini4 (hO _ (by decide +kernel)) (hM _ (by decide +kernel)) I2
    · exact oxe ini5 (hO _ (by decide +kernel)) (hM _ (by decide +kernel)) I3
    · exact oxe ini6 (hO _ (by decide +kernel)) (hM _ (by decide +kernel)) I4
    · exact oxe ini7 (hO _ (by decide +kernel)) (hM _ (by decide +kernel)) I5
    · exact oxe ini8 (hO _ (by decide +kernel)) (hM _ (by decide +kernel)) I6
    · exact oxe ini9 (hO _ (by decide +kernel)) (hM _ (by decide +kernel)) I7
    · exact oxe ini10 (hO _ (by decide +kernel)) (hM _ (by decide +kernel)) I8
    · exact oxe ini11 (hO _ (by decide +kernel)) (hM _ (by decide +kernel)) I9
    · exact oxe ini12 (hO _ (by decide +kernel)) (hM _ (by decide +kernel)) I10
    · exact oxe ini13 (hO _ (by decide +kernel)) (hM _ (by decide +kernel)) I11
  have hN : ∀ x ∈ errs, PySem.W.findIn K (.ref (He.ga K x)) "value" = some none := fun x hx => (hO x hx).no
  have hX : ∀ x ∈ errs, ExcC K (He.ga K x) ∧ XfC K (He.ga K x) := fun x hx => ⟨(hO x hx).ec, (hO x hx).xf⟩
  obtain ⟨te, tx⟩ := ecB_ok x7
  have c15 := callee (P := P) (w := w) (base := base) (ts := []) (i := 15) F15 (gl _ (by decide +kernel)) (ok_hash F15 (fr _ (by decide +kernel))) fun _ _ _ _ _ _ us ws hl _ => match us, hl with | [_, _], _ => rfl
  have c16 := callee (P := P) (w := w) (base := base) (ts := []) (i := 16) F16 (gl _ (by decide +kernel)) (ok_random F16 c15 (fr _ (by decide +kernel)) (fr _ (by decide +kernel))) fun _ _ _ _ _ _ us ws hl _ => match us, hl with | [_, _], _ => rfl
  have c17 := callee (P := P) (w := w) (base := base) (ts := []) (i := 17) F17 (gl _ (by decide +kernel)) (ok_cell F17 (fr _ (by decide +kernel)) (fr _ (by decide +kernel))) fun _ _ _ _ _ _ us ws hl _ => match us, hl with | [_, _], _ => rfl
  have c18 := callee (P := P) (w := w) (base := base) (ts := []) (i := 18) F18 (gl _ (by decide +kernel)) (ok_generator F18 c17 (fr _ (by decide +kernel)) (fr _ (by decide +kernel))) fun _ _ _ _ _ _ us ws hl _ => match us, hl with | [_, _], _ => rfl
  have c19 := callee (P := P) (w := w) (base := base) (ts := []) (i := 19) F19 (gl _ (by decide +kernel)) (ok_value F19 c16) fun _ _ _ _ _ _ us ws hl _ => match us, hl with | [_], _ => rfl
  have c20 := callee (P := P) (w := w) (base := base) (ts := []) (i := 20) F20 (gl _ (by decide +kernel)) (ok_sorts F20 (fr _ (by decide +kernel)) hM) fun _ _ _ _ _ _ us ws hl _ => match us, hl with | [_], _ => rfl
  have c21 := callee (P := P) (w := w) (base := base) (ts := []) (i := 21) F21 (gl _ (by decide +kernel)) (ok_bare F21 hE hN) fun _ _ _ _ _ _ us ws hl _ => match us, hl with | [], _ => rfl
  have c22 := callee (P := P) (w := w) (base := base) (ts := []) (i := 22) F22 (gl _ (by decide +kernel)) (ok_placed F22 hE hN) fun _ _ _ _ _ _ us ws hl _ => match us, hl with | [_], _ => rfl
  have c23 := callee (P := P) (w := w) (base := base) (ts := []) (i := 23) F23 (gl _ (by decide +kernel)) (ok_named F23 hE hN) fun _ _ _ _ _ _ us ws hl _ => match us, hl with | [_], _ => rfl
  have c24 := callee (P := P) (w := w) (base := base) (ts := []) (i := 24) F24 (gl _ (by decide +kernel)) (ok_made F24 c20 (fr _ (by decide +kernel)) (fr _ (by decide +kernel)) (fr _ (by decide +kernel)) (fr _ (by decide +kernel)) (fr _ (by decide +kernel)) (fr _ (by decide +kernel)) hT (fun x hx y hy => kindsB_ok x2 hx hy) hX (fun x hx => ofB_ok x3 hx) (fun x hx => ofB_ok x4 hx)) fun _ _ _ _ _ _ us ws hl _ => match us, hl with | [_, _], _ => rfl
  exact ok_law F25 c18 c19 c24 c21 c22 c23 c20 (fr _ (by decide +kernel)) (fr _ (by decide +kernel)) hT x5 x6 te (ofB_ok x8 (List.mem_singleton.mpr rfl)) (fun x hx => of_decide_eq_true (List.all_eq_true.mp x9 x hx)) hX
end K64
open PySem PySem.W PySem.Calls PyProof.Rows
theorem PySem.Challenge.cw_turnlines_k64_errors_made_holds : PySem.Challenge.rw_turnlines_k64_errors_made.Holds := by
  w_on; o_law
  refine HandSHeadRun.head_any (r := OpenLaw.row PySem.Challenge.rw_turnlines_k64_errors_made) (q := view (OpenLaw.row PySem.Challenge.rw_turnlines_k64_errors_made).prog [25]) (H := K64.hk) (ob := K64.ob) (M := 6000) (loose := K64.loose) (d := HandSHeadRun.topDef (OpenLaw.row PySem.Challenge.rw_turnlines_k64_errors_made).prog 25) (kwd := []) K64.ob_eq
    (by kernel_rfl) (fun s => by kernel_rfl) K64.run (by kernel_rfl) (by kernel_rfl) (by kernel_rfl) (by rfl) (by first | assumption | decide +kernel) (by decide +kernel) ⟨rfl, rfl, rfl, rfl, rfl, by decide +kernel⟩ ?hw ?hc
  case hw => w_witness2
  case hc =>
    refine Att.attach_callB (n := 63) rfl (by kernel_rfl) fun w s₀ s₁ mg mb fa o pm cd doc a vs ns G Y ho hd hcd hmg0 hobj hints hlen _ hg => ?_
    obtain ⟨K, KX, c⟩ := Y
    have hmg : mg ("law" : PySem.Str) = some (.ref fa) := by
      have e : (HandSHeadRun.topDef (OpenLaw.row PySem.Challenge.rw_turnlines_k64_errors_made).prog 25).name = ("law" : PySem.Str) := by kernel_rfl
      rw [← e]
      exact hmg0
    obtain ⟨fd, hb, hF⟩ := K64.facts (P := (PySem.Challenge.rw_turnlines_k64_errors_made).prog) (w := w) KX G.T.g hmg c
    obtain ⟨base, H, L⟩ := TL.lawAt (P := (PySem.Challenge.rw_turnlines_k64_errors_made).prog) (w := w) (K := K) KX G.T.g G.T.b G.T.builtins G.T.nolimit hg hobj hints (Nat.le_trans hlen (by decide))
    exact L.gives ⟨rfl, by decide, by decide⟩ (hF base L.env.mod.kin L.env.mod.glob) (hb _ _) ⟨H, [], fun v _ _ => v = .bl true, fun _ _ _ _ => False, ⟨fun b o e => e, L.noTab, (fun p hp => nomatch hp), List.nodup_nil, (fun p hp => nomatch hp), fun p hp => nomatch hp⟩, ⟨a, ns, rfl, rfl, .inl L.scr, fun _ _ => rfl⟩, fun v F' l' H' _ r => r, fun c d F' l' H' _ r => r.elim⟩

